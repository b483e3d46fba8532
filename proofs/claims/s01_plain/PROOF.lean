import PyProof.Rows.All
import Wide.All
import OpenK.AllK
import Wide.FinOn
import PyProof.EqAt
import PyProof.EqKinds
import PyProof.TupleCall
import KE.BitLaws
import Open.SpecLaws
import KE.OsHead
import KE.OsGo
import PyProof.ExcBaseAll.Exception
import PyProof.ExcAttrAll.Exception
import PyProof.InstStoreFacts
import PyProof.RulesAs
import PyProof.StrLawsFrom
import KE.IntTextLaws
import KE.KMinKey
import PyProof.Rows.CallKwBuiltin
import KE.KDictList
import PySem.Challenge.RW_arraytexts_s01_plain
set_option Elab.async false
set_option linter.all false
set_option maxRecDepth 100000
set_option maxHeartbeats 4000000
namespace PySem.W.Fast
def tw1663635001503169254:=0
def tw13174191600707223308:=0
def tw5098433967547747556:=0
def tw18236498278535089273:=0
def tw2171850586507032126:=0
def tw10665807907574704123:=0
def tw18240251234512250701:=0
def tw921071746170568836:=0
def tw6052603276575208153:=0
def tw6821370548469705480:=0
def tw3823200995016187945:=0
def tw2826841970584900639:=0
def tw18393709016551023882:=0
def tw5865859545355386920:=0
def tw6535411029189580989:=0
def tw7780873912753633472:=0
def tw8520393359556135191:=0
def tw14517399911184556961:=0
def tw1111660234279529518:=0
def tw13148283470761022411:=0
def tw2729807438366932592:=0
def tw6221758794417705792:=0
def tw9878917975526553246:=0
def tw14050078387617045286:=0
def tw1657927689312674207:=0
def tw8277338845303224410:=0
def tw14482001226897432282:=0
def tw9017035327681621279:=0
def tw15551288338511866274:=0
def tw11121449759334151751:=0
def tw17950567676669180333:=0
def tw2458940873436688787:=0
def tw969016148272197684:=0
def tw5156746525108382691:=0
def tw10364037879118824487:=0
def tw13705400398706132124:=0
def tw14393076621306162485:=0
def tw14939648869787860484:=0
def tw15573074616653340316:=0
def tw3154668288880547451:=0
def tw976764022547903350:=0
def tw1052533992897491228:=0
def tw14882639814228145076:=0
def tw13057145602457565812:=0
def tw14474238323467975784:=0
def tw11341160064826010322:=0
def tw9049646803863379091:=0
def tw12648306446193720982:=0
def tw13500648631956310074:=0
def tw5770564974216426694:=0
def tw13965274119342249145:=0
def tw8690208213850231768:=0
def tw140451768460318457:=0
def tw6048566249484995228:=0
def tw9194610244896565173:=0
def tw16044887629684776747:=0
def tw13754809587140067879:=0
def tw7460242302368827231:=0
def tw11694443946362017842:=0
def tw5722537462573850642:=0
def tw4202040274944760918:=0
def tw1280885347348709007:=0
def tw16053312591439520102:=0
def tw14818029176795065558:=0
def tw14532734558368024467:=0
def tw9596073994311893137:=0
def tw5131915597615399330:=0
def tw104084189030243363:=0
def tw15849433726768334596:=0
def tw9048324815748674442:=0
def tw10796306180746237045:=0
def tw3690746378927915779:=0
def tw8303994678972387111:=0
def tw14998408310999885343:=0
def tw15949756052557462648:=0
def tw6174015829815826496:=0
def tw17858915196849719457:=0
def tw18163121642803470397:=0
def tw7482950623551543014:=0
def tw6291272210321266547:=0
def tw3915923156919074816:=0
def tw198330978250055253:=0
def tw11099231907736761573:=0
def tw8166112162573598779:=0
def tw7250936202364560150:=0
def tw4439633163895061349:=0
def tw16575718264884777658:=0
def tw6085051103561961566:=0
def tw7448726027997324546:=0
def tw5038414513663917098:=0
def tw2543357845746888064:=0
def tw14748021202088615767:=0
def tw16245663440167711326:=0
def tw2005205858328310708:=0
def tw7100578702603812138:=0
def tw2647956448030255327:=0
def tw9929423338124082281:=0
def tw10024673258764727749:=0
def tw614225737202905507:=0
def tw12538997953805433753:=0
def tw11407734321483262423:=0
def tw13017458609613985475:=0
def tw1980729170588425931:=0
def tw7312670539887563427:=0
def tw17163453827762161158:=0
def tw6989875869792135749:=0
def tw12940502464959436006:=0
def tw515266298113361791:=0
def tw10966767771973814619:=0
def tw11100392828923573455:=0
def tw3667863172515290931:=0
def tw6811087833620418657:=0
def tw12750266508839187620:=0
def tw14827191529497834931:=0
def tw2513769143581077007:=0
def tw4850986002318612490:=0
def tw3768349023517836452:=0
def tw2232511591325712590:=0
def tw5752746301723995639:=0
def tw14674080623016775544:=0
def tw8510011260985571914:=0
def tw13932619427338274525:=0
def tw18292019008350659010:=0
def tw4060928603926599173:=0
def tw4005391145678739269:=0
def tw16822926120944618684:=0
def tw3295316662656402676:=0
def tw11919121869331507490:=0
def tw10553535118848459960:=0
def tw11297139506198655833:=0
def tw17922699422371648430:=0
def tw1687469158812348348:=0
def tw16275211708733574909:=0
def tw8300363633030810062:=0
def tw4467917655350909741:=0
def tw5259433603796612953:=0
def tw3044866597511550285:=0
def tw8626868712338429919:=0
def tw4580517770780587083:=0
def tw6058612535112036448:=0
def tw10423573263234787611:=0
def tw12629520143311019407:=0
def tw7698949039936871048:=0
def tw6477814830774119158:=0
def tw16536195158497153505:=0
def tw18322975972297238059:=0
def tw17135705593957834692:=0
def tw12374282033114268408:=0
def tw5930248397639416815:=0
def tw11069538407384271882:=0
def tw12145560704928160833:=0
def tw2100278394335051736:=0
def tw3468433516082107839:=0
def tw4288738632052170883:=0
def tw1806611625261421787:=0
def tw9920870663301396594:=0
def tw7318526529797771405:=0
def tw4741100234356420654:=0
def tw4629408443908622729:=0
def tw1425057770832973085:=0
def tw4534032371419134105:=0
def tw10772791828074503584:=0
def tw826166431431320127:=0
def tw17698804784064884560:=0
def tw2674525116893437434:=0
def tw13488442741827763529:=0
def tw10471957442741674962:=0
def tw12510019344560693880:=0
def tw5323239044153276414:=0
def tw11427224697178589152:=0
def tw3376591379245801240:=0
def tw6397438120261538918:=0
def tw5774052137427663402:=0
def tw6356609081596185717:=0
def tw3514070354015967113:=0
def tw5509015837799664855:=0
def tw8374509018118084822:=0
def tw9435866887631756737:=0
def tw14350092617328014041:=0
def tw11214502686368641729:=0
def tw5786431047575903510:=0
def tw3544581563989026155:=0
def tw6406347432328754156:=0
def tw1935703772070601571:=0
def tw11920240505329904233:=0
def tw3017162310329316859:=0
def tw11779339685830640370:=0
def tw9094881113044920676:=0
def tw15989773635569113187:=0
def tw2103674345790957254:=0
def tw5709438952127761366:=0
def tw11943758386592585283:=0
def tw8834384990703658643:=0
def tw18328248876396034765:=0
def tw7124888248289914049:=0
def tw5388020382299423667:=0
def tw2232690544759933832:=0
def tw17271909817793796999:=0
def tw3208021758034462332:=0
def tw2846256257020056035:=0
def tw11034399687618505010:=0
def tw13330276199416616475:=0
def tw10352435985877195394:=0
def tw482063097443030301:=0
def tw17244546157206107006:=0
def tw8748237854266919342:=0
def tw15929935609232259752:=0
def tw9492707523786478894:=0
def tw9300906243729304149:=0
def tw16064644781957487402:=0
def tw8412369430200554353:=0
def tw11505094739933662209:=0
def tw4132841346059289685:=0
def tw11705232261570802251:=0
def tw5655609734443324477:=0
def tw7777844203994803757:=0
def tw9547702055456710686:=0
def tw215147359996674489:=0
def tw5424997762759103217:=0
def tw11571863545101811318:=0
def tw5131236044705944505:=0
def tw4138513772411368969:=0
def tw1167333711822084026:=0
def tw13591537320617167315:=0
def tw3627070471232341893:=0
end PySem.W.Fast
section
namespace L2
open PySem PySem.Spec PyProof.Rows
abbrev Key:=Sum Int Str
def Qjg:Key→Value→Bool
 | .inl k,v=>Value.isInt k v
 | .inr x,v=>Value.isStrOf x v
def keyH (w:World):Key→Int
 | .inl k=>hashInt k
 | .inr x=>hashStr w x
theorem Qb9:∀ {k:Key} {v:Value},Qjg k v = true→(∃ i t,k = Sum.inl i∧v = Value.int i t) ∨ (∃ x t,k = Sum.inr x∧v = Value.str x t)
 | .inl i,v,h=>by
  obtain ⟨t,e⟩:=Value.isInt_shape (k:=i) (v:=v) h
  exact .inl ⟨i,t,rfl,e⟩
 | .inr x,v,h=>by
  obtain ⟨t,e⟩:=Value.isStrOf_shape (x:=x) (v:=v) h
  exact .inr ⟨x,t,rfl,e⟩
theorem Qbr (i:Int) (t:Tok):Qjg (.inl i) (.int i t) = true:=by simp [Qjg,Value.isInt]
theorem Qpk (x:Str) (t:Tok):Qjg (.inr x) (.str x t) = true:=by simp [Qjg,Value.isStrOf]
theorem Qy3 (a b:Int):decide ((Sum.inl a:Key) = Sum.inl b) = (a == b):=by
 by_cases e:a = b
 ·subst e;simp
 ·have h : ¬ (Sum.inl a:Key) = Sum.inl b:=fun q=>e (Sum.inl.inj q)
  rw [decide_eq_false h]
  exact (beq_eq_false_iff_ne.mpr e).symm
theorem Qy0 (a b:Str):decide ((Sum.inr a:Key) = Sum.inr b) = decide (a = b):=by
 by_cases e:a = b
 ·subst e;simp
 ·have h : ¬ (Sum.inr a:Key) = Sum.inr b:=fun q=>e (Sum.inr.inj q)
  rw [decide_eq_false h,decide_eq_false e]
theorem Qy2 (a:Int) (b:Str):decide ((Sum.inl a:Key) = Sum.inr b) = false:=decide_eq_false (fun q=>nomatch q)
theorem Qy1 (a:Str) (b:Int):decide ((Sum.inr a:Key) = Sum.inl b) = false:=decide_eq_false (fun q=>nomatch q)
def Qbv (prog:Program) (w:World):PySem.KeyKind prog w Key where
 is:=Qjg
 hash:=keyH w
 inj:=fun v a b ha hb=>by
  rcases Qb9 ha with ⟨i,t,rfl,rfl⟩ | ⟨x,t,rfl,rfl⟩
  ·rcases Qb9 hb with ⟨j,u,rfl,e⟩ | ⟨y,u,rfl,e⟩
   ·injection e with e1 _;rw [e1]
   ·exact nomatch e
  ·rcases Qb9 hb with ⟨j,u,rfl,e⟩ | ⟨y,u,rfl,e⟩
   ·exact nomatch e
   ·injection e with e1 _;rw [e1]
 byValue:=fun k v h=>by
  rcases Qb9 h with ⟨i,t,rfl,rfl⟩ | ⟨x,t,rfl,rfl⟩ <;> rfl
 pyHash:=fun hv h=>by
  rcases Qb9 hv with ⟨i,t,rfl,rfl⟩ | ⟨x,t,rfl,rfl⟩
  ·exact wpAny_pyHash_int h
  ·exact wpAny_pyHash_str h
 eqBool:=fun hu hv h=>by
  rcases Qb9 hu with ⟨i,t,rfl,rfl⟩ | ⟨x,t,rfl,rfl⟩
  ·rcases Qb9 hv with ⟨j,u,rfl,rfl⟩ | ⟨y,u,rfl,rfl⟩
   ·rw [Qy3] at h;exact wpAny_eqBool_int h
   ·rw [Qy2] at h;exact SeqAt.EqAt.int_str i t y u _ _ _ _ h
  ·rcases Qb9 hv with ⟨j,u,rfl,rfl⟩ | ⟨y,u,rfl,rfl⟩
   ·rw [Qy1] at h;exact SeqAt.EqAt.str_int x t j u _ _ _ _ h
   ·rw [Qy0] at h;exact wpAny_eqBool_str h
 «strs»:=fun k x t v h=>by
  rcases Qb9 h with ⟨i,u,rfl,e⟩ | ⟨y,u,rfl,e⟩
  ·exact nomatch e
  ·injection e with e1 _
   subst e1
   cases v <;> rfl
theorem Qkp (prog:Program) (w:World) (i:Int) (t:Tok):(Qbv prog w).is (.inl i) (.int i t) = true:=Qbr i t
theorem Qko (prog:Program) (w:World) (x:Str) (t:Tok):(Qbv prog w).is (.inr x) (.str x t) = true:=Qpk x t
end L2
namespace L2
open PySem PySem.Spec PyProof.Rows
inductive V where
 | non | bl (b:Bool) | int (i:Int) | str (x:Str) | byt (b:Array UInt8) | flt (b:UInt64) | ref (a:Addr) | ty (n:String)
 deriving DecidableEq
def RelV:V→Value→Prop
 | .non,u=>u = Value.none
 | .bl b,u=>u = Value.bool b
 | .int i,u=>∃ t,u = Value.int i t
 | .str x,u=>∃ t,u = Value.str x t
 | .byt b,u=>∃ t,u = Value.bytes b t
 | .flt b,u=>∃ t,u = Value.float b t
 | .ref a,u=>u = Value.ref a
 | .ty n,u=>u = Value.type n
abbrev Vals:List V→List Value→Prop:=Paired RelV
theorem Vals.length {xs:List V} {us:List Value} (r:Vals xs us):xs.length = us.length:=Paired.length r
theorem Vals.get:∀ {xs:List V} {us:List Value} {i:Nat} {x:V},Vals xs us→xs[i]? = some x→∃ u,us[i]? = some u∧RelV x u
 | _,_,_,_, .nil,e=>by simp at e
 | _,_,0,_, .cons r _,e=>by simp at e;subst e;exact ⟨_,rfl,r⟩
 | _,_,i + 1,x, .cons _ t,e=>by
  obtain ⟨u,h1,h2⟩:=Vals.get (i:=i) (x:=x) t (by simpa using e)
  exact ⟨u,by simpa using h1,h2⟩
theorem Vals.set {x:V} {u:Value} (r:RelV x u):∀ {xs:List V} {us:List Value} (i:Nat),Vals xs us→Vals (xs.set i x) (us.set i u)
 | _,_,_, .nil=>.nil
 | _,_,0, .cons _ t=>.cons r t
 | _,_,i + 1, .cons q t=>.cons q (Vals.set r i t)
theorem Vals.append:∀ {xs ys:List V} {us ws:List Value},Vals xs us→Vals ys ws→Vals (xs ++ ys) (us ++ ws)
 | _,_,_,_, .nil,s=>s
 | _,_,_,_, .cons r t,s=>.cons r (Vals.append t s)
theorem Vals.take:∀ {xs:List V} {us:List Value} (n:Nat),Vals xs us→Vals (xs.take n) (us.take n)
 | _,_,0,_=>.nil
 | _,_,_ + 1, .nil=>.nil
 | _,_,n + 1, .cons r t=>.cons r (Vals.take n t)
theorem Vals.drop:∀ {xs:List V} {us:List Value} (n:Nat),Vals xs us→Vals (xs.drop n) (us.drop n)
 | _,_,0,r=>r
 | _,_,_ + 1, .nil=>.nil
 | _,_,n + 1, .cons _ t=>Vals.drop n t
def RelO:Option V→Option Value→Prop
 | some v,some u=>RelV v u
 | none,none=>True
 | _,_=>False
def KV {κ : Type}:List (κ × V)→List (κ × Value)→Prop:=Paired fun (p : κ × V) (q : κ × Value)=>p.1 = q.1∧RelV p.2 q.2
def kV:Key→V
 | .inl i=>.int i
 | .inr x=>.str x
inductive HO where
 /-- a list -/
 | lst (xs:List V)
 /-- a tuple (never changes) -/
 | tup (xs:List V)
 /-- a dict whose keys are ints and texts;one whose keys are tuples of ints and texts (the empty one is both) -/
 | dK (kvs:List (Key × V)) | dT (kvs:List (List Key × V))
 /-- a set of ints: its members,its size -/
 | set (S:Int→Bool) (n:Nat)
 /-- an instance of the class at C,its dict at dx,its attributes -/
 | ins (C dx:Addr) (fs:List (Str × V))
 /-- the dict of the instance at x -/
 | own (x:Addr)
 /-- the dict of an exception -/
 | xd (fs:List (Str × V))
 /-- a bound method,f of x -/
 | met (f x:Addr)
 /-- a range object lo,lo + 1, .. below hi -/
 | rng (lo hi:Int)
 /-- a thing that is known to the object (the script;a dict while a loop walks it): read,never written while it is so -/
 | frz (o:Obj) (u:HO)
 /-- a code object's table -/
 | tbl (ps:Array Value)
 /-- any other thing,by what is true of its one object (a def of one's own: SetO a S n:=HO.ext fun h=>..) -/
 | ext (φ : Heap→Prop)
abbrev Hp:=Addr→Option HO
def upd (H:Hp) (a:Addr) (o:HO):Hp:=fun b=>if b = a then some o else H b
theorem Qa3 {H:Hp} {a:Addr} {o:HO}:upd H a o a = some o:=by unfold upd;rw [if_pos rfl]
theorem Qa6 {H:Hp} {a b:Addr} {o:HO} (h:b ≠ a):upd H a o b = H b:=by unfold upd;rw [if_neg h]
theorem Qc2 {H:Hp} {a b:Addr} {o u:HO} (h:H a = some o) (h':H b = some u) (d:o ≠ u):a ≠ b:=by
 intro e;subst e;rw [h] at h';exact d (Option.some.inj h')
theorem Qa7 {H:Hp} {a b:Addr} {o:HO} (h:H a = some o) (h':H b = none):a ≠ b:=by
 intro e;subst e;rw [h] at h';cases h'
section
variable (P : Program) (w : World)
def Qcg (H:Hp) (h:Heap) (a:Addr):HO→Prop
 | .lst xs=>xs.length ≤ sizeLine∧∃ (its:List Value) (n:Nat),Vals xs its∧h.get? a = some { cls:=.type "list",data:=.seq its.toArray n }
 | .tup xs=>xs.length ≤ sizeLine∧∃ its:List Value,Vals xs its∧IsTup h a its.toArray
 | .dK kvs=>kvs.length ≤ sizeLine∧(a == sysModules) = false∧∃ vs,KV kvs vs∧h.DictOf (Qbv P w) a vs
 | .dT kvs=>kvs.length ≤ sizeLine∧(a == sysModules) = false∧∃ xs:List (List Key × Addr × Value),
   Paired (fun (p:List Key × V) (q:List Key × Addr × Value)=>p.1 = q.1∧H q.2.1 = some (.tup (p.1.map kV))∧RelV p.2 q.2.2) kvs xs ∧
   ∃ o es ep,h.get? a = some o∧o.ExactDict∧o.data = .dict es ep∧es.toList = xs.map (entryOfKey (tupleKind (Qbv P w)))∧(xs.map (·.1)).Nodup
 | .set S n=>h.SetOf (intKind P w) a S n
 | .ins C dx fs=>H dx = some (.own a)∧fs.length ≤ 1000∧dx ≠ a∧h.get? a = some (PySem.W.instObj C dx) ∧
   ∃ mA,h.Ns1 dx mA∧(∀ f,RelO (fs.lookup f) (mA f))∧PySem.Within mA (fs.map (·.1))
 | .own _=>∃ o,h.get? a = some o
 | .xd fs=>∃ mA,h.Ns1 a mA∧∀ f,RelO (fs.lookup f) (mA f)
 | .rng lo hi=>∃ t u v,h.get? a = some { cls:=.type "range",data:=.fields #[.int lo t, .int hi u, .int 1 v] }
 | .frz o u=>h.get? a = some o∧Qcg H h a u
 | .tbl ps=>h.get? a = some { cls:=.none,data:=.fields ps }
 | .met f x=>h.get? a = some (PySem.W.methodObj (.ref f) (.ref x))
 | .ext φ=>φ h∧(∃ o,h.get? a = some o)∧∀ h1 h2:Heap,φ h1→(∀ o,h1.get? a = some o→h2.get? a = some o)→φ h2
def HOk (H:Hp) (h:Heap):Prop:=∀ a o,H a = some o→Qcg P w H h a o
end
section
variable {P : Program} {w : World} {H H' : Hp} {h h' : Heap} {a : Addr} {o : HO}
theorem Qcg.lt (x:Qcg P w H h a o):a < h.objs.size:=by
 cases o with
 | lst xs=>obtain ⟨_,_,_,_,e⟩:=x;exact Heap.lt_size e
 | tup xs=>obtain ⟨_,_,_,p⟩:=x;exact p.lt
 | dK kvs=>obtain ⟨_,_,_,_,o,_,_,e,_⟩:=x;exact Heap.lt_size e
 | dT kvs=>obtain ⟨_,_,_,_,o,_,_,e,_⟩:=x;exact Heap.lt_size e
 | set S n=>obtain ⟨o,_,_,_,e,_⟩:=x;exact Heap.lt_size e
 | ins C dx fs=>obtain ⟨_,_,_,e,_⟩:=x;exact Heap.lt_size e
 | own y=>obtain ⟨_,e⟩:=x;exact Heap.lt_size e
 | xd fs=>obtain ⟨_,⟨_,_,_,e,_⟩,_⟩:=x;exact Heap.lt_size e
 | rng lo hi=>obtain ⟨_,_,_,e⟩:=x;exact Heap.lt_size e
 | frz ob u=>obtain ⟨e,_⟩:=x;exact Heap.lt_size e
 | tbl ps=>exact Heap.lt_size (show h.get? a = some _ from x)
 | met f y=>exact Heap.lt_size (show h.get? a = some _ from x)
 | ext φ=>obtain ⟨_,⟨_,e⟩,_⟩:=x;exact Heap.lt_size e
theorem Paired.mapP {α β : Type} {F G : α→β→Prop}:∀ {l₁ : List α} {l₂ : List β},Paired F l₁ l₂→(∀ a b,F a b→G a b)→Paired G l₁ l₂
 | _,_, .nil,_=>.nil
 | _,_, .cons r t,f=>.cons (f _ _ r) (Paired.mapP t f)
theorem Qcg.stay (x:Qcg P w H h a o) (k:∀ b u,(b = a ∨ H b = some (.own a))→h.get? b = some u→h'.get? b = some u)
  (ho:∀ b,H b = some (.own a)→H' b = some (.own a)) (ht:∀ b xs,H b = some (.tup xs)→H' b = some (.tup xs)):Qcg P w H' h' a o:=by
 induction o with
 | lst xs=>obtain ⟨z,its,n,r,e⟩:=x;exact ⟨z,its,n,r,k _ _ (.inl rfl) e⟩
 | tup xs=>obtain ⟨z,its,r,ob,e,c⟩:=x;exact ⟨z,its,r,ob,k _ _ (.inl rfl) e,c⟩
 | dK kvs=>obtain ⟨z,y,vs,r,ob,es,ep,e,c⟩:=x;exact ⟨z,y,vs,r,ob,es,ep,k _ _ (.inl rfl) e,c⟩
 | dT kvs =>
  obtain ⟨z,y,xs,r,ob,es,ep,e,c⟩:=x
  exact ⟨z,y,xs,Paired.mapP r fun p q z=>⟨z.1,ht _ _ z.2.1,z.2.2⟩,ob,es,ep,k _ _ (.inl rfl) e,c⟩
 | set S n=>obtain ⟨ob,es,ep,t,e,c⟩:=x;exact ⟨ob,es,ep,t,k _ _ (.inl rfl) e,c⟩
 | ins C dx fs =>
  obtain ⟨d,z,ne,e,mA,⟨od,es,ep,e2,c⟩,r⟩:=x
  exact ⟨ho _ d,z,ne,k _ _ (.inl rfl) e,mA,⟨od,es,ep,k _ _ (.inr d) e2,c⟩,r⟩
 | own y=>obtain ⟨ob,e⟩:=x;exact ⟨ob,k _ _ (.inl rfl) e⟩
 | xd fs=>obtain ⟨mA,⟨od,es,ep,e,c⟩,r⟩:=x;exact ⟨mA,⟨od,es,ep,k _ _ (.inl rfl) e,c⟩,r⟩
 | rng lo hi=>obtain ⟨t,u,v,e⟩:=x;exact ⟨t,u,v,k _ _ (.inl rfl) e⟩
 | frz ob u ih=>obtain ⟨e,q⟩:=x;exact ⟨k _ _ (.inl rfl) e,ih q⟩
 | tbl ps =>
  have e:h.get? a = some { cls:=.none,data:=.fields ps }:=x
  show h'.get? a = some { cls:=.none,data:=.fields ps }
  exact k a _ (.inl rfl) e
 | met f y =>
  have e:h.get? a = some (PySem.W.methodObj (.ref f) (.ref y)):=x
  show h'.get? a = some (PySem.W.methodObj (.ref f) (.ref y))
  exact k a _ (.inl rfl) e
 | ext φ=>obtain ⟨p,⟨o,e⟩,st⟩:=x;exact ⟨st _ _ p fun o q=>k _ _ (.inl rfl) q,⟨o,k _ _ (.inl rfl) e⟩,st⟩
theorem HOk.lt (x:HOk P w H h) (e:H a = some o):a < h.objs.size:=(x a o e).lt
theorem HOk.fresh (x:HOk P w H h) (e:h.objs.size ≤ a):H a = none:=by
 cases q:H a with
 | none=>rfl
 | some u=>exact absurd (Nat.lt_of_lt_of_le (x.lt q) e) (Nat.lt_irrefl _)
theorem HOk.kept (x:HOk P w H h) (k:∀ b u,h.get? b = some u→h'.get? b = some u):HOk P w H h':=fun a o e =>
 (x a o e).stay (fun b u _ q=>k b u q) (fun _ q=>q) fun _ _ q=>q
theorem HOk.laid (x:HOk P w H h) (k:∀ b u,h.get? b = some u→h'.get? b = some u) (hp:h.objs.size ≤ a) (new:Qcg P w (upd H a o) h' a o):HOk P w (upd H a o) h':=fun b u e=>by
 have hn:=x.fresh hp
 by_cases hb:b = a
 ·subst hb;rw [Qa3] at e;cases e;exact new
 ·rw [Qa6 hb] at e
  exact (x b u e).stay (fun c v _ q=>k c v q) (fun c q=>by rw [Qa6 (Qa7 q hn)];exact q) fun c xs q=>by rw [Qa6 (Qa7 q hn)];exact q
end
def Rd (H:Hp) (a:Addr) (u:HO):Prop:=H a = some u ∨ ∃ o,H a = some (.frz o u)
theorem Rd.ok {P:Program} {w:World} {H:Hp} {h:Heap} {a:Addr} {u:HO} (r:Rd H a u) (x:HOk P w H h):Qcg P w H h a u:=by
 rcases r with r | ⟨o,r⟩
 ·exact x a u r
 ·obtain ⟨_,q⟩:=x a _ r
  exact q
def Mut:Option HO→Prop
 | some (.lst _)=>True
 | some (.dK _)=>True
 | some (.dT _)=>True
 | some (.set _ _)=>True
 | some (.ins _ _ _)=>True
 | some (.ext _)=>True
 | _=>False
section
variable {P : Program} {w : World} {H : Hp} {h h' : Heap} {x e : Addr} {o' : HO}
theorem HOk.write (ok:HOk P w H h) (mu:Mut (H x)) (he:e = x ∨ H e = some (.own x)) (k:∀ b u,b ≠ e→h.get? b = some u→h'.get? b = some u) (heo:∃ u,h'.get? e = some u)
  (new:Qcg P w (upd H x o') h' x o'):HOk P w (upd H x o') h':=fun b u q=>by
 have nown:∀ c y,H c = some (.own y)→c ≠ x:=fun c y r z=>by subst z;rw [r] at mu;exact mu
 have ntup:∀ c xs,H c = some (.tup xs)→c ≠ x:=fun c xs r z=>by subst z;rw [r] at mu;exact mu
 by_cases hb:b = x
 ·subst hb;rw [Qa3] at q;cases q;exact new
 ·rw [Qa6 hb] at q
  by_cases hbe:b = e
  ·have q':H b = some (.own x):=by
    rcases he with z | z
    ·exact absurd (hbe.trans z) hb
    ·rw [hbe];exact z
   rw [q] at q';cases q'
   obtain ⟨v,hv⟩:=heo
   exact ⟨v,by rw [hbe];exact hv⟩
  ·refine (ok b u q).stay (fun c v hc r=>k c v ?_ r) (fun c r=>by rw [Qa6 (nown c b r)];exact r) fun c xs r=>by rw [Qa6 (ntup c xs r)];exact r
   rcases hc with rfl | hc
   ·exact hbe
   ·rintro rfl
    rcases he with z | z
    ·exact nown c b hc z
    ·rw [hc] at z;cases z;exact hb rfl
end
structure Un (fs ex:List Addr) (H H':Hp) (h h':Heap):Prop where
 keep:∀ b o,h.get? b = some o→H b = none→b ∉ fs→b ∉ ex→h'.get? b = some o
 slot:∀ b o,h.get? b = some o→H b = none→b ∈ fs→b ∉ ex→∃ sl,h'.get? b = some { o with slots:=sl }
 free:∀ b o,h.get? b = some o→H b = none→b ∉ ex→H' b = none
 there:∀ b o,h.get? b = some o→b ∉ ex→∃ o',h'.get? b = some o'
 tups:∀ b xs,H b = some (.tup xs)→H' b = some (.tup xs)
 frzs:∀ b o u,H b = some (.frz o u)→H' b = some (.frz o u)
 tbls:∀ b ps,H b = some (.tbl ps)→∃ more,H' b = some (.tbl (ps ++ more))
section
variable {fs fs' ex ex' : List Addr} {H H1 H2 : Hp} {h h1 h2 h' : Heap} {a x e : Addr} {o : HO}
theorem Un.any (u:Un fs ex H H1 h h1) {b:Addr} {ob:Obj} (q:h.get? b = some ob) (n:H b = none) (hx:b ∉ ex):∃ sl,h1.get? b = some { ob with slots:=sl }:=by
 by_cases hb:b ∈ fs
 ·exact u.slot b ob q n hb hx
 ·exact ⟨ob.slots,u.keep b ob q n hb hx⟩
theorem Un.kept (k:∀ b u,h.get? b = some u→h'.get? b = some u):Un fs ex H H h h' :=
 ⟨fun b ob q _ _ _=>k b ob q,fun b ob q _ _ _=>⟨ob.slots,k b ob q⟩,fun _ _ _ n _=>n,fun b ob q _=>⟨ob,k b ob q⟩,fun _ _ q=>q,fun _ _ _ q=>q,fun _ ps q=>⟨#[],by rw [q];simp⟩⟩
theorem Un.refl:Un fs ex H H h h:=Un.kept fun _ _ q=>q
theorem Un.laid (k:∀ b u,h.get? b = some u→h'.get? b = some u) (hp:h.objs.size ≤ a) (hn:H a = none):Un fs ex H (upd H a o) h h' where
 keep:=fun b u q _ _ _=>k b u q
 slot:=fun b u q _ _ _=>⟨u.slots,k b u q⟩
 free:=fun b u q n _=>by rw [Qa6 (Nat.ne_of_lt (Nat.lt_of_lt_of_le (Heap.lt_size q) hp))];exact n
 there:=fun b u q _=>⟨u,k b u q⟩
 tups:=fun b xs q=>by rw [Qa6 (Qa7 q hn)];exact q
 frzs:=fun b u xs q=>by rw [Qa6 (Qa7 q hn)];exact q
 tbls:=fun b ps q=>⟨#[],by rw [Qa6 (Qa7 q hn),q];simp⟩
theorem Un.write (mu:Mut (H x)) (he:e = x ∨ H e = some (.own x)) (k:∀ b u,b ≠ e→h.get? b = some u→h'.get? b = some u) (heo:∃ u,h'.get? e = some u):Un fs ex H (upd H x o) h h':=by
 have hx:∀ b,H b = none→b ≠ x:=fun b n z=>by subst z;rw [n] at mu;exact mu
 have hb:∀ b,H b = none→b ≠ e:=fun b n z=>by
  subst z
  rcases he with r | r
  ·exact hx b n r
  ·rw [n] at r;cases r
 have hm:∀ b u,H b = some u→¬ Mut (some u)→b ≠ x:=fun b u q nm z=>by subst z;rw [q] at mu;exact nm mu
 refine ⟨fun b u q n _ _=>k b u (hb b n) q,fun b u q n _ _=>⟨u.slots,k b u (hb b n) q⟩,fun b u q n _=>by rw [Qa6 (hx b n)];exact n,fun b u q _=>?_,
  fun b xs q=>by rw [Qa6 (hm b _ q fun z=>z)];exact q,fun b u xs q=>by rw [Qa6 (hm b _ q fun z=>z)];exact q,fun b ps q=>⟨#[],by rw [Qa6 (hm b _ q fun z=>z),q];simp⟩⟩
 by_cases hbe:b = e
 ·subst hbe;exact heo
 ·exact ⟨u,k b u hbe q⟩
end
def trk (h:Heap) (H:Hp):List Addr:=(List.range h.objs.size).filter fun a=>(H a).isSome
def hidT (h:Heap) (H:Hp):Heap:=PySem.W.hideAll h (trk h H)
theorem Qpv (h:Heap) (H:Hp):(hidT h H).objs.size = h.objs.size:=PySem.W.hideAll_size _ _
theorem Qru {h:Heap} {H:Hp} {b:Addr} {o:Obj} (e:h.get? b = some o) (n:H b = none):(hidT h H).get? b = some o :=
 PySem.W.hideAll_get _ e fun hm=>by
  have q:(H b).isSome = true:=(List.mem_filter.mp hm).2
  rw [n] at q;simp at q
theorem Qu9 {h:Heap} {H:Hp} {b:Addr} {o:Obj} (e:(hidT h H).get? b = some o):h.get? b = some o∧H b = none:=by
 have e':h.get? b = some o:=PySem.W.of_hideAll (trk h H) e
 refine ⟨e',?_⟩
 cases q:H b with
 | none=>rfl
 | some x =>
  have hm:b ∈ trk h H:=List.mem_filter.mpr ⟨List.mem_range.mpr (Heap.lt_size e'),by simp [q]⟩
  have z:(hidT h H).get? b = none:=PySem.W.hideAll_none (trk h H) hm
  rw [z] at e;cases e
end L2
namespace L2
open PySem PySem.Spec PyProof.Rows
structure Mod (K:PySem.W.Frag) (mg:Str→Option Value) (base:Heap):Prop where
 kin:K.In base
 glob:base.Ns mainGlobals mg
 blt:∃ mb,base.Ns builtinsNs mb∧∀ x:Str,x ≠ "__name__" → mb x = bootBuiltins x
 nolimit:base.NoLimit
structure Cx where
 prog:Program
 w:World
 K:PySem.W.Frag
 mg:Str→Option Value
 base:Heap
 A:Around
 N:List Str
 s_0:Shared
 H_0:Hp
 env:Env
 outer:List Env
 stack:List Env
 ex:List Addr
 fn:Str→Bool
 calm:Bool
 pn:List (Addr × Obj)
 xe:Value→Shared→Prop
def frs (l:List Env):List Addr:=l.filterMap (·.frame)
abbrev Cx.fs (X:Cx):List Addr:=frs X.outer
def Vis (sc:Scope) (x:Str):Prop:=sc.names.lookup x = some .local ∨ sc.names.lookup x = some .cell ∨ sc.names.lookup x = some .free
def Loc (sc:Scope) (x:Str):Prop:=sc.names.lookup x = some .local ∨ sc.names.lookup x = some .cell
def Look (env:Env) (h:Heap) (m:Str→Option Value) (x:Str) (u:Value):Prop :=
 (env.kindOf x = some .local∧m x = some u) ∨ ((env.kindOf x = some .cell ∨ env.kindOf x = some .free)∧∃ c,env.cells.lookup x = some c∧h.IsCell c (some u))
structure Cx.Ok (X:Cx):Prop where
 mod:Mod X.K X.mg X.base
 kind:X.env.scope.kind = .function
 glob:X.env.globals = mainGlobals
 blt:X.env.builtins = builtinsNs
 above:X.s_0.heap.objs.size ≤ X.env.locals
 inj:∀ x y c,X.env.cells.lookup x = some c→X.env.cells.lookup y = some c→x = y
 has:∀ x,(X.env.kindOf x = some .cell ∨ X.env.kindOf x = some .free)→∃ c,X.env.cells.lookup x = some c
 cab:∀ x c,X.fn x = true→X.env.cells.lookup x = some c→X.s_0.heap.objs.size ≤ c
 hd:X.calm = true→X.A.handled = none
 frames:X.A.frames = some X.stack
 stk:X.stack = X.outer ∨ (X.stack = X.env :: X.outer∧X.env.frame = some X.env.locals)
 exf:∀ b ∈ X.ex,b ≠ X.env.locals∧∀ x c,X.env.cells.lookup x = some c→c ≠ b
 bs:∀ b o,X.base.get? b = some o→X.s_0.heap.get? b = some o∧X.H_0 b = none
 bsz:X.base.objs.size ≤ X.s_0.heap.objs.size
 noex:∀ b o,X.base.get? b = some o→b ∉ X.ex
 exfs:∀ b ∈ X.ex,b ∉ X.fs
 funs:X.s_0.heap.FunFrames X.base X.outer
 frf:∀ b ∈ X.fs,X.H_0 b = none
structure Inv (X:Cx) (pins:List (Addr × Obj)) (σ : List (Option V)) (H:Hp) (s:Shared):Prop where
 ok:X.Ok
 os:s.os = X.s_0.os
 bare:AllBare s.gens
 base:Un X.fs X.ex X.H_0 H X.s_0.heap s.heap
 loc:∃ m,s.heap.Ns X.env.locals m∧∀ (i:Nat) (x:Str) (v:V),X.N[i]? = some x→σ[i]? = some (some v)→Vis X.env.scope x→∃ u,RelV v u∧Look X.env s.heap m x u
 cell:∀ x c,X.env.cells.lookup x = some c→∃ v,s.heap.IsCell c v
 free:H X.env.locals = none
 freeC:∀ x c,X.env.cells.lookup x = some c→H c = none
 pin:∀ p ∈ X.pn ++ pins,s.heap.get? p.1 = some p.2∧H p.1 = none∧p.1 ≠ X.env.locals∧p.1 ∉ X.fs∧∀ v,p.2.data ≠ .cell v
 hok:HOk X.prog X.w H s.heap
 len : σ.length = X.N.length
section
variable {X : Cx} {pins : List (Addr × Obj)} {σ : List (Option V)} {H H' : Hp} {s : Shared} {h' : Heap}
theorem Cx.Ok.nofr (ok:X.Ok) {b:Addr} {o:Obj} (e:X.base.get? b = some o):b ∉ X.fs:=fun hb=>by
 have:=(ok.funs.mem hb).1
 rw [e] at this;cases this
theorem Inv.bs (I:Inv X pins σ H s):∀ b o,X.base.get? b = some o→s.heap.get? b = some o∧H b = none:=fun b o e =>
 ⟨I.base.keep b o (I.ok.bs b o e).1 (I.ok.bs b o e).2 (I.ok.nofr e) (I.ok.noex b o e),I.base.free b o (I.ok.bs b o e).1 (I.ok.bs b o e).2 (I.ok.noex b o e)⟩
theorem Inv.bk (I:Inv X pins σ H s):∀ b o,X.base.get? b = some o→s.heap.get? b = some o:=fun b o e=>(I.bs b o e).1
theorem Inv.mod (I:Inv X pins σ H s):Mod X.K X.mg X.base:=I.ok.mod
theorem Inv.kIn (I:Inv X pins σ H s):X.K.In s.heap:=I.ok.mod.kin.keeps I.bk
theorem Inv.fr (I:Inv X pins σ H s):∃ m,Fr X.base X.env.locals s.heap m :=
 let ⟨m,hn,_⟩:=I.loc
 ⟨m,hn,I.bk,Nat.le_trans I.ok.bsz I.ok.above⟩
theorem Inv.lt (I:Inv X pins σ H s):X.env.locals < s.heap.objs.size:=let ⟨_,hn,_⟩:=I.loc;hn.lt
theorem Inv.sz (I:Inv X pins σ H s):X.s_0.heap.objs.size ≤ s.heap.objs.size:=Nat.le_trans I.ok.above (Nat.le_of_lt I.lt)
theorem Inv.nofs (I:Inv X pins σ H s) {a:Addr} (h:s.heap.objs.size ≤ a):a ∉ X.fs:=fun hb=>by
 obtain ⟨_,o,ho,_⟩:=I.ok.funs.mem hb
 exact absurd (Nat.lt_of_lt_of_le (Heap.lt_size ho) (Nat.le_trans I.sz h)) (Nat.lt_irrefl _)
theorem Inv.cne (I:Inv X pins σ H s):∀ x c,X.env.cells.lookup x = some c→c ≠ X.env.locals:=fun x c e z=>by
 obtain ⟨v,o,ho,hd⟩:=I.cell x c e
 obtain ⟨m,⟨o',es,ep,ho',hd',_⟩,_⟩:=I.loc
 rw [z,ho'] at ho;cases ho;rw [hd'] at hd;cases hd
theorem Inv.funs (I:Inv X pins σ H s):s.heap.FunFrames X.base X.outer:=by
 have all:∀ (l:List Env),(∀ b ∈ frs l,b ∈ X.fs)→X.s_0.heap.FunFrames X.base l→s.heap.FunFrames X.base l:=by
  intro l
  induction l with
  | nil=>intro _ _;trivial
  | cons env r ih =>
   intro hs hl
   obtain ⟨hk,⟨L,o,hf,hn,ho,hd⟩,hr⟩:=hl
   have hL:L ∈ X.fs:=hs L (by unfold frs;rw [List.filterMap_cons,hf];exact List.mem_cons_self)
   obtain ⟨sl,e⟩:=I.base.slot L o ho (I.ok.frf L hL) hL fun z=>I.ok.exfs L z hL
   exact ⟨hk,⟨L,_,hf,hn,e,hd⟩,ih (fun b hb=>hs b (by unfold frs;rw [List.filterMap_cons,hf];exact List.mem_cons_of_mem _ hb)) hr⟩
 exact all X.outer (fun _ hb=>hb) I.ok.funs
theorem Inv.stack (I:Inv X pins σ H s):s.heap.FunFrames X.base X.stack:=by
 rcases I.ok.stk with e | ⟨e,hf⟩
 ·rw [e];exact I.funs
 ·rw [e]
  obtain ⟨m,hn,_⟩:=I.loc
  refine .cons (by rw [I.ok.kind];decide) hf hn ?_ I.funs
  exact Heap.get?_none_of_le (Nat.le_trans I.ok.bsz I.ok.above)
theorem Inv.stkSub (I:Inv X pins σ H s):∀ b ∈ frs X.stack,b ∈ X.env.locals :: X.fs:=fun b hb=>by
 rcases I.ok.stk with e | ⟨e,hf⟩
 ·rw [e] at hb;exact List.mem_cons_of_mem _ hb
 ·rw [e] at hb
  unfold frs at hb
  rw [List.filterMap_cons,hf] at hb
  exact hb
theorem Inv.stkFree (I:Inv X pins σ H s):∀ b ∈ frs X.stack,H b = none:=fun b hb=>by
 rcases List.mem_cons.mp (I.stkSub b hb) with e | hb
 ·rw [e];exact I.free
 ·obtain ⟨_,o,ho,_⟩:=I.ok.funs.mem hb
  exact I.base.free b o ho (I.ok.frf b hb) fun z=>I.ok.exfs b z hb
theorem Inv.step {g':Array GenState} {t':Nat} {d':Drawn} {ch:List Addr} (I:Inv X pins σ H s)
  (hch:∀ b ∈ ch,(b ∈ X.ex ∨ X.s_0.heap.objs.size ≤ b)∧b ≠ X.env.locals∧(∀ x c,X.env.cells.lookup x = some c→c ≠ b)∧∀ p ∈ X.pn ++ pins,p.1 ≠ b)
  (keep:∀ b o,b ≠ X.env.locals→b ∉ X.fs→b ∉ ch→s.heap.get? b = some o→H b = none→h'.get? b = some o)
  (slot:∀ b o,b ≠ X.env.locals→b ∈ X.fs→b ∉ ch→s.heap.get? b = some o→H b = none→∃ sl,h'.get? b = some { o with slots:=sl }) (free:∀ b o,b ∉ ch→s.heap.get? b = some o→H b = none→H' b = none)
  (there:∀ b o,b ∉ ch→s.heap.get? b = some o→∃ o',h'.get? b = some o')
  (tups:∀ b xs,H b = some (.tup xs)→H' b = some (.tup xs)) (frzs:∀ b o u,H b = some (.frz o u)→H' b = some (.frz o u)) (tbls:∀ b ps,H b = some (.tbl ps)→∃ more,H' b = some (.tbl (ps ++ more)))
  (ns:∀ m,s.heap.Ns X.env.locals m→h'.Ns X.env.locals m) (hok:HOk X.prog X.w H' h') (hg:AllBare g') :
  Inv X pins σ H' { s with heap:=h',gens:=g',drawn:=d',toks:=t' }:=by
 have neL:∀ b o,X.s_0.heap.get? b = some o→b ≠ X.env.locals:=fun b o e=>Nat.ne_of_lt (Nat.lt_of_lt_of_le (Heap.lt_size e) I.ok.above)
 have neC:∀ b o,X.s_0.heap.get? b = some o→b ∉ X.ex→b ∉ ch:=fun b o e hx hb=>by
  rcases (hch b hb).1 with z | z
  ·exact hx z
  ·exact absurd (Nat.lt_of_lt_of_le (Heap.lt_size e) z) (Nat.lt_irrefl _)
 have cellK:∀ x c,X.env.cells.lookup x = some c→∀ v,s.heap.IsCell c v→h'.IsCell c v:=fun x c e v ⟨o,ho,hd⟩=>by
  have nch:c ∉ ch:=fun z=>(hch c z).2.2.1 x c e rfl
  by_cases hc:c ∈ X.fs
  ·obtain ⟨sl,q⟩:=slot c o (I.cne x c e) hc nch ho (I.freeC x c e)
   exact ⟨_,q,hd⟩
  ·exact ⟨o,keep c o (I.cne x c e) hc nch ho (I.freeC x c e),hd⟩
 refine ⟨I.ok,I.os,hg,⟨fun b o e n hb hx=>?_,fun b o e n hb hx=>?_,fun b o e n hx=>?_,fun b o e hx=>?_,fun b xs e=>tups b xs (I.base.tups b xs e),fun b o xs e=>frzs b o xs (I.base.frzs b o xs e),fun b ps e=>?_⟩,?_,fun x c e=>?_,?_,fun x c e=>?_,fun p hp=>?_,hok,I.len⟩
 ·exact keep b o (neL b o e) hb (neC b o e hx) (I.base.keep b o e n hb hx) (I.base.free b o e n hx)
 ·obtain ⟨sl,e1⟩:=I.base.slot b o e n hb hx
  obtain ⟨sl',e2⟩:=slot b _ (neL b o e) hb (neC b o e hx) e1 (I.base.free b o e n hx)
  exact ⟨sl',e2⟩
 ·obtain ⟨o',e1⟩:=I.base.there b o e hx
  exact free b o' (neC b o e hx) e1 (I.base.free b o e n hx)
 ·obtain ⟨o',e1⟩:=I.base.there b o e hx
  exact there b o' (neC b o e hx) e1
 ·obtain ⟨m1,e1⟩:=I.base.tbls b ps e
  obtain ⟨m2,e2⟩:=tbls b _ e1
  exact ⟨m1 ++ m2,by rw [e2,Array.append_assoc]⟩
 ·obtain ⟨m,hn,hl⟩:=I.loc
  refine ⟨m,ns m hn,fun i x v e1 e2 e3=>?_⟩
  obtain ⟨u,r,l⟩:=hl i x v e1 e2 e3
  refine ⟨u,r,?_⟩
  rcases l with l | ⟨k,c,e,z⟩
  ·exact .inl l
  ·exact .inr ⟨k,c,e,cellK x c e _ z⟩
 ·obtain ⟨v,z⟩:=I.cell x c e
  exact ⟨v,cellK x c e v z⟩
 ·obtain ⟨m,⟨o,_,_,ho,_⟩,_⟩:=I.loc
  exact free _ o (fun z=>(hch _ z).2.1 rfl) ho I.free
 ·obtain ⟨v,o,ho,hd⟩:=I.cell x c e
  exact free c o (fun z=>(hch c z).2.2.1 x c e rfl) ho (I.freeC x c e)
 ·obtain ⟨e,n,ne,nf,d⟩:=I.pin p hp
  have nch:p.1 ∉ ch:=fun z=>(hch p.1 z).2.2.2 p hp rfl
  exact ⟨keep p.1 p.2 ne nf nch e n,free p.1 p.2 nch e n,ne,nf,d⟩
theorem Inv.un {t':Nat} (I:Inv X pins σ H s) (u:Un X.fs [] H H' s.heap h') (hok:HOk X.prog X.w H' h'):Inv X pins σ H' { s with heap:=h',toks:=t' }:=by
 obtain ⟨m,⟨o,es,ep,ho,r⟩,_⟩:=id I.loc
 obtain ⟨sl,hL⟩:=u.any ho I.free (by simp)
 exact I.step (g':=s.gens) (d':=s.drawn) (ch:=[]) (fun _ z=>nomatch z) (fun b o _ hb _ e n=>u.keep b o e n hb (by simp)) (fun b o _ hb _ e n=>u.slot b o e n hb (by simp)) (fun b o _ e n=>u.free b o e n (by simp)) (fun b o _ e=>u.there b o e (by simp)) u.tups u.frzs u.tbls (fun m' hm=>by
  obtain ⟨o',es',ep',ho',r'⟩:=hm
  rw [ho] at ho';cases ho'
  exact ⟨_,es',ep',hL,r'⟩) hok I.bare
theorem Inv.call {g':Array GenState} {t':Nat} {d':Drawn} {ch:List Addr} (I:Inv X pins σ H s) (u:Un (frs X.stack) ch H H' s.heap h') (hok:HOk X.prog X.w H' h') (hg:AllBare g')
  (hch:∀ b ∈ ch,(b ∈ X.ex ∨ X.s_0.heap.objs.size ≤ b)∧b ≠ X.env.locals∧(∀ x c,X.env.cells.lookup x = some c→c ≠ b)∧∀ p ∈ X.pn ++ pins,p.1 ≠ b) :
  Inv X pins σ H' { s with heap:=h',gens:=g',drawn:=d',toks:=t' }:=by
 obtain ⟨m,⟨o,es,ep,ho,r⟩,_⟩:=id I.loc
 obtain ⟨sl,hL⟩:=u.any ho I.free fun z=>(hch _ z).2.1 rfl
 exact I.step (ch:=ch) hch (fun b o hL hb hc e n=>u.keep b o e n (fun z=>(List.mem_cons.mp (I.stkSub b z)).elim hL hb) hc) (fun b o _ _ hc e n=>u.any e n hc) (fun b o hc e n=>u.free b o e n hc) (fun b o hc e=>u.there b o e hc) u.tups u.frzs u.tbls (fun m' hm=>by
  obtain ⟨o',es',ep',ho',r'⟩:=hm
  rw [ho] at ho';cases ho'
  exact ⟨_,es',ep',hL,r'⟩) hok hg
theorem Inv.turned {t':Nat} {it:Addr} (I:Inv X pins σ H s) (k:∀ b o,b ≠ it→s.heap.get? b = some o→h'.get? b = some o) (hn:H it = none) (hL:it ≠ X.env.locals)
  (h1:it ∈ X.ex ∨ X.s_0.heap.objs.size ≤ it) (h2:∀ x c,X.env.cells.lookup x = some c→c ≠ it) (h3:∀ p ∈ X.pn ++ pins,p.1 ≠ it):Inv X pins σ H { s with heap:=h',toks:=t' }:=by
 have nit:∀ b u,H b = some u→b ≠ it:=fun b u e z=>by rw [z,hn] at e;cases e
 refine I.step (g':=s.gens) (d':=s.drawn) (ch:=[it]) (fun b hb=>?_) (fun b o _ _ hc e _=>k b o (fun z=>hc (by simp [z])) e) (fun b o _ _ hc e _=>⟨o.slots,k b o (fun z=>hc (by simp [z])) e⟩) (fun _ _ _ _ n=>n)
  (fun b o hc e=>⟨o,k b o (fun z=>hc (by simp [z])) e⟩) (fun _ _ e=>e) (fun _ _ _ e=>e) (fun b ps e=>⟨#[],by rw [e];simp⟩) (fun m hm=>?_) (fun b u e=>?_) I.bare
 ·have e:b = it:=by simpa using hb
  subst e
  exact ⟨h1,hL,h2,h3⟩
 ·obtain ⟨o,es,ep,ho,r⟩:=hm
  exact ⟨o,es,ep,k _ o (Ne.symm hL) ho,r⟩
 ·refine (I.hok b u e).stay (fun c v hc q=>k c v ?_ q) (fun _ q=>q) fun _ _ q=>q
  rcases hc with z | z
  ·rw [z];exact nit b u e
  ·exact nit c _ z
theorem Inv.tok (I:Inv X pins σ H s) (t:Nat):Inv X pins σ H { s with toks:=t }:=I.un (h':=s.heap) (t':=t) Un.refl I.hok
theorem Inv.kept {t':Nat} (I:Inv X pins σ H s) (k:∀ b u,s.heap.get? b = some u→h'.get? b = some u):Inv X pins σ H { s with heap:=h',toks:=t' }:=I.un (Un.kept k) (I.hok.kept k)
theorem Inv.laid {a:Addr} {o:HO} {t':Nat} (I:Inv X pins σ H s) (k:∀ b u,s.heap.get? b = some u→h'.get? b = some u) (hp:s.heap.objs.size ≤ a) (new:Qcg X.prog X.w (upd H a o) h' a o) :
  Inv X pins σ (upd H a o) { s with heap:=h',toks:=t' }:=I.un (Un.laid k hp (I.hok.fresh hp)) (I.hok.laid k hp new)
theorem Inv.write {x e:Addr} {o:HO} {t':Nat} (I:Inv X pins σ H s) (mu:Mut (H x)) (he:e = x ∨ H e = some (.own x)) (k:∀ b u,b ≠ e→s.heap.get? b = some u→h'.get? b = some u) (heo:∃ u,h'.get? e = some u)
  (new:Qcg X.prog X.w (upd H x o) h' x o):Inv X pins σ (upd H x o) { s with heap:=h',toks:=t' }:=I.un (Un.write mu he k heo) (I.hok.write mu he k heo new)
theorem Inv.weak {σ':List (Option V)} (I:Inv X pins σ H s) (hl : σ'.length = σ.length) (w:∀ (i:Nat) v,σ'[i]? = some (some v)→σ[i]? = some (some v)):Inv X pins σ' H s :=
 ⟨I.ok,I.os,I.bare,I.base,let ⟨m,hn,hl'⟩:=I.loc; ⟨m,hn,fun i x v e1 e2 e3=>hl' i x v e1 (w i v e2) e3⟩,I.cell,I.free,I.freeC,I.pin,I.hok,hl.trans I.len⟩
theorem Inv.pins_of {pins':List (Addr × Obj)} (I:Inv X pins σ H s) (h:∀ p ∈ pins',s.heap.get? p.1 = some p.2∧H p.1 = none∧p.1 ≠ X.env.locals∧p.1 ∉ X.fs∧∀ v,p.2.data ≠ .cell v):Inv X pins' σ H s :=
 ⟨I.ok,I.os,I.bare,I.base,I.loc,I.cell,I.free,I.freeC,fun p hp=>(List.mem_append.mp hp).elim (fun z=>I.pin p (List.mem_append_left _ z)) (h p),I.hok,I.len⟩
theorem Qi3 {N:List Str} (hN:N.Nodup) {i j:Nat} {x:Str} (a:N[i]? = some x) (b:N[j]? = some x):i = j:=by
 obtain ⟨h1,e1⟩:=List.getElem?_eq_some_iff.mp a
 obtain ⟨h2,e2⟩:=List.getElem?_eq_some_iff.mp b
 exact (List.getElem_inj hN).mp (e1.trans e2.symm)
theorem Qim {M:Model} {A:Around} {E:Value→Shared→Prop} {i:Nat} {x:Str} {v:V} {u:Value} {Q:Unit→Shared→Prop} (I:Inv X pins σ H s) (hN:X.N.Nodup) (hi:X.N[i]? = some x) (hx:Loc X.env.scope x) (r:RelV v u)
  (h:∀ s',Inv X pins (σ.set i (some v)) H s'→(∃ a,Heap.SameBut a s.heap s'.heap∧(a = X.env.locals ∨ X.env.cells.lookup x = some a))→Q () s') (hf:X.fn x = true ∨ X.env.scope.names.lookup x = some .local:=by first | exact .inl rfl | exact .inr rfl | assumption):wpAny M A (storeName X.env x u) Q E s:=by
 obtain ⟨m,hn,hl⟩:=id I.loc
 have hcls:(X.env.scope.kind == .class || (X.env.scope.kind == .module && X.env.locals != X.env.globals)) = false:=by rw [I.ok.kind];rfl
 have hiσ : i < σ.length:=by rw [I.len];exact (List.getElem?_eq_some_iff.mp hi).1
 have cne:=I.cne
 have tracked:∀ {a:Addr} {h':Heap},(∃ o,s.heap.get? a = some o∧H a = none)→Heap.SameBut a s.heap h'→HOk X.prog X.w H h':=fun {a h'} ha hs b ob e=>by
  obtain ⟨_,_,hfree⟩:=ha
  refine (I.hok b ob e).stay (fun c w' hc q=>(hs.2 c ?_).trans q) (fun _ q=>q) fun _ _ q=>q
  rintro rfl
  rcases hc with rfl | hc
  ·rw [hfree] at e;cases e
  ·rw [hfree] at hc;cases hc
 rcases hx with hk | hk
 ·refine wpAny_storeName_local hk hn (fun h' hn' hs=>?_) hcls
  obtain ⟨oL,_,_,hoL,_⟩:=id hn
  refine h _ ⟨I.ok,I.os,I.bare,⟨fun b o e n hb hx=>?_,fun b o e n hb hx=>?_,I.base.free,fun b o e hx=>?_,I.base.tups,I.base.frzs,I.base.tbls⟩,⟨_,hn',fun j y v' e1 e2 e3=>?_⟩,fun y c e=>?_,I.free,I.freeC,fun p hp=>?_,tracked ⟨oL,hoL,I.free⟩ hs,by simpa using I.len⟩ ⟨_,hs, .inl rfl⟩
  ·exact (hs.2 b (Nat.ne_of_lt (Nat.lt_of_lt_of_le (Heap.lt_size e) I.ok.above))).trans (I.base.keep b o e n hb hx)
  ·obtain ⟨sl,e1⟩:=I.base.slot b o e n hb hx
   exact ⟨sl,(hs.2 b (Nat.ne_of_lt (Nat.lt_of_lt_of_le (Heap.lt_size e) I.ok.above))).trans e1⟩
  ·obtain ⟨o',e1⟩:=I.base.there b o e hx
   exact ⟨o',(hs.2 b (Nat.ne_of_lt (Nat.lt_of_lt_of_le (Heap.lt_size e) I.ok.above))).trans e1⟩
  ·by_cases hj:j = i
   ·subst hj
    rw [hi] at e1;cases e1
    rw [List.getElem?_set_self hiσ] at e2
    cases e2
    exact ⟨u,r, .inl ⟨hk,by simp⟩⟩
   ·rw [List.getElem?_set_ne (Ne.symm hj)] at e2
    obtain ⟨u',r',q⟩:=hl j y v' e1 e2 e3
    refine ⟨u',r',?_⟩
    rcases q with ⟨k,e⟩ | ⟨k,c,e,z⟩
    ·refine .inl ⟨k,?_⟩
     have:y ≠ x:=fun e=>hj (Qi3 hN e1 (e ▸ hi))
     simp [this,e]
    ·exact .inr ⟨k,c,e,z.sameBut hs (cne y c e)⟩
  ·obtain ⟨w',z⟩:=I.cell y c e
   exact ⟨w',z.sameBut hs (cne y c e)⟩
  ·obtain ⟨e,n,ne,nf,d⟩:=I.pin p hp
   exact ⟨(hs.2 p.1 ne).trans e,n,ne,nf,d⟩
 ·have hfn:X.fn x = true:=by
   rcases hf with z | z
   ·exact z
   ·rw [z] at hk;cases hk
  obtain ⟨c,hc⟩:=I.ok.has x (.inl hk)
  obtain ⟨w',z⟩:=I.cell x c hc
  refine wpAny_storeName_cell I.ok.kind hk hc z (fun h' hc' hs=>?_)
  obtain ⟨oc,hoc,hocd⟩:=id z
  refine h { s with heap:=h' } ⟨I.ok,I.os,I.bare,⟨fun b o e n hb hx=>?_,fun b o e n hb hx=>?_,I.base.free,fun b o e hx=>?_,I.base.tups,I.base.frzs,I.base.tbls⟩,⟨m,hn.sameBut hs (Ne.symm (cne x c hc)),fun j y v' e1 e2 e3=>?_⟩,fun y c' e=>?_,I.free,I.freeC,fun p hp=>?_,tracked ⟨oc,hoc,I.freeC x c hc⟩ hs,by simpa using I.len⟩ ⟨c,hs, .inr hc⟩
  ·exact (hs.2 b (Nat.ne_of_lt (Nat.lt_of_lt_of_le (Heap.lt_size e) (I.ok.cab x c hfn hc)))).trans (I.base.keep b o e n hb hx)
  ·obtain ⟨sl,e1⟩:=I.base.slot b o e n hb hx
   exact ⟨sl,(hs.2 b (Nat.ne_of_lt (Nat.lt_of_lt_of_le (Heap.lt_size e) (I.ok.cab x c hfn hc)))).trans e1⟩
  ·obtain ⟨o',e1⟩:=I.base.there b o e hx
   exact ⟨o',(hs.2 b (Nat.ne_of_lt (Nat.lt_of_lt_of_le (Heap.lt_size e) (I.ok.cab x c hfn hc)))).trans e1⟩
  ·by_cases hj:j = i
   ·subst hj
    rw [hi] at e1;cases e1
    rw [List.getElem?_set_self hiσ] at e2
    cases e2
    exact ⟨u,r, .inr ⟨.inl hk,c,hc,hc'⟩⟩
   ·rw [List.getElem?_set_ne (Ne.symm hj)] at e2
    obtain ⟨u',r',q⟩:=hl j y v' e1 e2 e3
    refine ⟨u',r',?_⟩
    rcases q with q | ⟨k,c',e,z'⟩
    ·exact .inl q
    ·refine .inr ⟨k,c',e,z'.sameBut hs ?_⟩
     rintro rfl
     exact hj (Qi3 hN e1 (I.ok.inj _ _ _ e hc ▸ hi))
  ·by_cases hcc:c' = c
   ·subst hcc;exact ⟨_,hc'⟩
   ·obtain ⟨w2,z2⟩:=I.cell y c' e
    exact ⟨w2,z2.sameBut hs hcc⟩
  ·obtain ⟨e,n,ne,nf,d⟩:=I.pin p hp
   refine ⟨(hs.2 p.1 ?_).trans e,n,ne,nf,d⟩
   intro q
   rw [q,hoc] at e
   have q':oc = p.2:=Option.some.inj e
   exact d w' (by rw [← q'];exact hocd)
theorem Qft {M:Model} {A:Around} {E:Value→Shared→Prop} {i:Nat} {x:Str} {v:V} {u:Value} {Q:Unit→Shared→Prop} (I:Inv X pins σ H s) (hN:X.N.Nodup) (hi:X.N[i]? = some x) (hx:Loc X.env.scope x) (r:RelV v u)
  (h:∀ s',Inv X pins (σ.set i (some v)) H s'→Q () s') (hf:X.fn x = true ∨ X.env.scope.names.lookup x = some .local:=by first | exact .inl rfl | exact .inr rfl | assumption):wpAny M A (storeName X.env x u) Q E s :=
 Qim I hN hi hx r (fun s' I' _=>h s' I') hf
theorem Inv.call' {s':Shared} {ch:List Addr} (I:Inv X pins σ H s) (ho:s'.os = s.os) (u:Un (frs X.stack) ch H H' s.heap s'.heap) (hok:HOk X.prog X.w H' s'.heap) (hg:AllBare s'.gens)
  (hch:∀ b ∈ ch,(b ∈ X.ex ∨ X.s_0.heap.objs.size ≤ b)∧b ≠ X.env.locals∧(∀ x c,X.env.cells.lookup x = some c→c ≠ b)∧∀ p ∈ X.pn ++ pins,p.1 ≠ b):Inv X pins σ H' s':=by
 obtain ⟨h',g',d',t',o'⟩:=s'
 have e:o' = s.os:=ho
 subst e
 exact I.call (g':=g') (t':=t') (d':=d') u hok hg hch
end
abbrev XK:=Value→Option Addr→Hp→Prop
abbrev St:=List (Option V)
abbrev VK:=V→Hp→Prop
abbrev TE:=St→Hp→VK→Prop
abbrev TT:=St→Hp→(Bool→Hp→Prop)→Prop
abbrev TA:=St→Hp→(List V→Hp→Prop)→Prop
structure Ends where
 nx:St→Hp→Prop
 rt:VK
 bk:St→Hp→Prop:=fun _ _=>False
 ct:St→Hp→Prop:=fun _ _=>False
abbrev TS:=Ends→St→Hp→Prop
def EP (X:Cx) (pins:List (Addr × Obj)) (σ : St) (Q:VK) (u:Value) (s':Shared):Prop:=∃ v H',Inv X pins σ H' s'∧RelV v u∧Q v H'
def TP (X:Cx) (pins:List (Addr × Obj)) (σ : St) (Q:Bool→Hp→Prop) (b:Bool) (s':Shared):Prop:=∃ H',Inv X pins σ H' s'∧Q b H'
def AP (X:Cx) (pins:List (Addr × Obj)) (σ : St) (Q:List V→Hp→Prop) (us:List Value) (s':Shared):Prop:=∃ vs H',Inv X pins σ H' s'∧Vals vs us∧Q vs H'
def SP (X:Cx) (pins:List (Addr × Obj)) (D:Ends) (f:Flow) (s':Shared):Prop :=
 match f with
 | .next=>∃ σ' H',Inv X pins σ' H' s'∧D.nx σ' H'
 | .brk=>∃ σ' H',Inv X pins σ' H' s'∧D.bk σ' H'
 | .cont=>∃ σ' H',Inv X pins σ' H' s'∧D.ct σ' H'
 | .ret u=>∃ v σ' H',Inv X pins σ' H' s'∧RelV v u∧D.rt v H'
def PE (X:Cx) (e:Expr) (t:TE):Prop :=
 ∀ (pins:List (Addr × Obj)) (s:Shared) (σ : St) (H:Hp) (Q:VK),Inv X pins σ H s→t σ H Q→wpAny (model X.prog X.w) X.A (eval e X.env) (EP X pins σ Q) X.xe s
def PT (X:Cx) (e:Expr) (t:TT):Prop :=
 ∀ (pins:List (Addr × Obj)) (s:Shared) (σ : St) (H:Hp) (Q:Bool→Hp→Prop),Inv X pins σ H s→t σ H Q→wpAny (model X.prog X.w) X.A (isTrue e X.env (eval e X.env)) (TP X pins σ Q) X.xe s
def PW (X:Cx) (e:Expr) (t:TT):Prop :=
 ∀ (whole:Sem Value) (pins:List (Addr × Obj)) (s:Shared) (σ : St) (H:Hp) (Q:Bool→Hp→Prop),Inv X pins σ H s→t σ H Q→wpAny (model X.prog X.w) X.A (isTrue e X.env whole) (TP X pins σ Q) X.xe s
theorem PW.pt {X:Cx} {e:Expr} {t:TT} (h:PW X e t):PT X e t:=h _
def PA (X:Cx) (es:List Expr) (t:TA):Prop :=
 ∀ (pos:Pos) (pins:List (Addr × Obj)) (s:Shared) (σ : St) (H:Hp) (Q:List V→Hp→Prop),Inv X pins σ H s→t σ H Q→wpAny (model X.prog X.w) X.A (spliced (backTo pos (starEach es X.env))) (AP X pins σ Q) X.xe s
def PS (X:Cx) (st:Stmt) (t:TS):Prop :=
 ∀ (pins:List (Addr × Obj)) (s:Shared) (σ : St) (H:Hp) (D:Ends),Inv X pins σ H s→t D σ H→wpAny (model X.prog X.w) X.A (exec st X.env) (SP X pins D) X.xe s
def PSs (X:Cx) (st:List Stmt) (t:TS):Prop :=
 ∀ (pins:List (Addr × Obj)) (s:Shared) (σ : St) (H:Hp) (D:Ends),Inv X pins σ H s→t D σ H→wpAny (model X.prog X.w) X.A (execs st X.env) (SP X pins D) X.xe s
theorem thn {α : Type} {t:Sem α} {Q Q' : α→Shared→Prop} {M:Model} {A:Around} {E:Value→Shared→Prop} {s:Shared} (h:wpAny M A t Q E s) (hQ:∀ a s,Q a s→Q' a s):wpAny M A t Q' E s:=wpAny_mono h hQ fun _ _ x=>x
end L2
namespace L2
open PySem PySem.Spec PyProof.Rows
section
variable {X : Cx}
theorem bin {a b:Expr} {ta tb:TE} (ha:PE X a ta) (hb:PE X b tb) {pins:List (Addr × Obj)} {s:Shared} {σ : St} {H:Hp} {R:V→V→Hp→Prop} (I:Inv X pins σ H s) (h:ta σ H fun x H1=>tb σ H1 fun y H2=>R x y H2)
  {α : Type} {Q : α→Shared→Prop} {f:Value→Value→Sem α}
  (hf:∀ v u s2 x y H2,Inv X pins σ H2 s2→RelV x v→RelV y u→R x y H2→wpAny (model X.prog X.w) X.A (f v u) Q X.xe s2) :
  wpAny (model X.prog X.w) X.A (eval a X.env) (fun v s₁=>wpAny (model X.prog X.w) X.A (eval b X.env) (fun u s₂=>wpAny (model X.prog X.w) X.A (f v u) Q X.xe s₂) X.xe s₁) X.xe s:=by
 refine thn (ha pins s σ H _ I h) fun v s1 ⟨x,H1,I1,r1,q1⟩=>?_
 refine thn (hb pins s1 σ H1 _ I1 q1) fun u s2 ⟨y,H2,I2,r2,q2⟩=>?_
 exact hf v u s2 x y H2 I2 r1 r2 q2
def tVar (i:Nat):TE:=fun σ H Q=>∃ v,σ[i]? = some (some v)∧Q v H
def tC (v:V):TE:=fun _ H Q=>Q v H
theorem Qt2 {i:Nat} {x:Str} {pos:Pos} (hN:X.N[i]? = some x) (hv:Vis X.env.scope x) (hd:(x == ("__debug__" : Str)) = false:=by decide) (hcd:(x == ("__classdict__" : Str)) = false:=by decide):PE X (.Name x pos) (tVar i):=by
 intro pins s σ H Q I h
 obtain ⟨v,e,h⟩:=h
 obtain ⟨m,hn,hl⟩:=I.loc
 obtain ⟨u,r,l⟩:=hl i x v hN e hv
 have fin:EP X pins σ Q u s:=⟨v,H,I,r,h⟩
 rcases l with ⟨hk,hm⟩ | ⟨hk,c,hc,hcell⟩
 ·exact wpAny_Name (wpAny_loadName_local I.ok.kind hk hn hm fin) hd
 ·rcases hk with hk | hk
  ·exact wpAny_Name (wpAny_loadName_cell I.ok.kind hk hc hcell fin) hd
  ·exact wpAny_Name (wpAny_loadName_free I.ok.kind hk hc hcell fin hcd) hd
theorem Qai {i j pos}:PE X (.Constant (.int i) j pos) (tC (.int i)):=fun _ _ _ H _ I h=>wpAny_Constant_int ⟨.int i,H,I.tok _,⟨_,rfl⟩,h⟩
theorem Qu6 {b j pos}:PE X (.Constant (.bool b) j pos) (tC (.bl b)):=fun _ _ _ H _ I h=>Constant_bool ⟨.bl b,H,I,rfl,h⟩
theorem Qwz {j pos}:PE X (.Constant .none j pos) (tC .non):=fun _ _ _ H _ I h=>Constant_none ⟨.non,H,I,rfl,h⟩
theorem Qad {x j pos}:PE X (.Constant (.str x) j pos) (tC (.str x)):=fun _ _ _ H _ I h=>Calls.Constant_str ⟨.str x,H,I.tok _,⟨_,rfl⟩,h⟩
def Gl (X:Cx) (x:Str):Prop:=X.env.kindOf x = some .globalImplicit
theorem Qdt {E:Value→Shared→Prop} {pins:List (Addr × Obj)} {s:Shared} {σ : St} {H:Hp} {x:Str} {u:Value} {pos:Pos} {Q:Value→Shared→Prop} (I:Inv X pins σ H s) (hg:Gl X x) (hm:X.mg x = some u) (h:Q u s)
  (hd:(x == ("__debug__" : Str)) = false:=by decide):wpAny (model X.prog X.w) X.A (eval (.Name x pos) X.env) Q E s :=
 Calls.Name_function_global I.ok.kind hg (Calls.loadGlobal_global (by rw [I.ok.glob];exact I.mod.glob.keeps I.bk) hm h) hd
theorem Qje {E:Value→Shared→Prop} {pins:List (Addr × Obj)} {s:Shared} {σ : St} {H:Hp} {x:Str} {u:Value} {pos:Pos} {Q:Value→Shared→Prop} (I:Inv X pins σ H s) (hg:Gl X x) (hm:X.mg x = none) (hv:bootBuiltins x = some u) (h:Q u s)
  (hn:x ≠ "__name__" := by decide) (hd:(x == ("__debug__" : Str)) = false:=by decide):wpAny (model X.prog X.w) X.A (eval (.Name x pos) X.env) Q E s:=by
 obtain ⟨mb,h1,h2⟩:=I.mod.blt
 exact Calls.Name_function_global I.ok.kind hg (Calls.loadGlobal_builtin (by rw [I.ok.glob];exact I.mod.glob.keeps I.bk) hm (by rw [I.ok.blt];exact h1.keeps I.bk) ((h2 x hn).trans hv) h) hd
theorem Qbp {x:Str} {v:V} {u:Value} {pos:Pos} (hg:Gl X x) (hm:X.mg x = some u) (r:RelV v u) (hd:(x == ("__debug__" : Str)) = false:=by decide):PE X (.Name x pos) (tC v) :=
 fun _ _ _ H _ I h=>Qdt I hg hm ⟨v,H,I,r,h⟩ hd
variable {a b : Expr} {ta tb : TE} {pos : Pos}
def PC (X:Cx) (op:CmpOp) (a b:Expr) (t:TE):Prop :=
 ∀ (pins:List (Addr × Obj)) (s:Shared) (σ : St) (H:Hp) (Q:VK),Inv X pins σ H s→t σ H Q →
  wpAny (model X.prog X.w) X.A (eval a X.env) (fun v s₁=>wpAny (model X.prog X.w) X.A (eval b X.env) (fun u s₂=>wpAny (model X.prog X.w) X.A (compareOp op v u) (EP X pins σ Q) X.xe s₂) X.xe s₁) X.xe s
theorem Qrf (b:Expr) {op:CmpOp} (h:op ≠ .In) (h2:op ≠ .NotIn):behindInMarks op b = false:=by
 have e1:(op == CmpOp.In) = false:=by cases op <;> first | rfl | exact absurd rfl h
 have e2:(op == CmpOp.NotIn) = false:=by cases op <;> first | rfl | exact absurd rfl h2
 cases b <;> simp [behindInMarks,e1,e2]
def tIsN (ta:TE):TE:=fun σ H Q=>ta σ H fun x H1=>Q (.bl (decide (x = .non))) H1
theorem RelV.none_iff {x:V} {v:Value} (r:RelV x v):(v == Value.none) = decide (x = .non):=by
 cases x with
 | non=>cases r;rfl
 | bl _=>cases r;rfl
 | int _=>obtain ⟨t,rfl⟩:=r;rfl
 | str _=>obtain ⟨t,rfl⟩:=r;rfl
 | byt _=>obtain ⟨t,rfl⟩:=r;rfl
 | flt _=>obtain ⟨t,rfl⟩:=r;rfl
 | ref _=>cases r;rfl
 | ty _=>cases r;rfl
theorem Qx1 {j pos'} (ha:PE X a ta):PC X .Is a (.Constant .none j pos') (tIsN ta):=by
 intro pins s σ H Q I h
 refine thn (ha pins s σ H _ I h) fun v s1 ⟨x,H1,I1,r1,q1⟩=>?_
 exact Constant_none (is_none_gen ⟨.bl _,H1,I1,by rw [r1.none_iff];rfl,q1⟩)
def tB (t:TE):TT:=fun σ H Q=>t σ H fun x H1=>∃ c,x = .bl c∧Q c H1
theorem Qix {op:CmpOp} {t:TE} (h:PC X op a b t) (h1:behindInMarks op b = false:=by first | exact Qrf _ (by decide) (by decide) | rfl):PT X (.Compare a [op] [b] pos) (tB t):=by
 intro pins s σ H Q I hw
 refine wpAny_isTrue_Compare1 (thn (h pins s σ H _ I hw) fun v s1 h1=>thn h1 fun u s2 h2=>thn h2 fun c s3 ⟨x,H1,I1,r1,q1⟩=>?_) h1
 obtain ⟨d,rfl,q⟩:=q1
 cases r1
 exact wpAny_truthy_bool ⟨H1,I1,q⟩
theorem Qcs {e:Expr} {t:TE} (h:PE X e t) (he:∀ whole,isTrue e X.env whole = (do let v ← whole;standAt e.pos;holding [v] (truthy v)):=by intro _;rfl):PT X e (tB t):=by
 intro pins s σ H Q I hw
 refine isTrue_plain (thn (h pins s σ H _ I hw) fun v s1 ⟨x,H1,I1,r1,q1⟩=>?_) (he _)
 obtain ⟨d,rfl,q⟩:=q1
 cases r1
 exact wpAny_truthy_bool ⟨H1,I1,q⟩
variable {tA tB' : TT} {rest : List Expr}
def tAnd (t u:TT):TT:=fun σ H Q=>t σ H fun c H1=>if c = true then u σ H1 Q else Q false H1
def tOr (t u:TT):TT:=fun σ H Q=>t σ H fun c H1=>if c = true then Q true H1 else u σ H1 Q
def tNot (t:TT):TT:=fun σ H Q=>t σ H fun c H1=>Q (!c) H1
theorem pw_and1 (ha:PT X a tA):PW X (.BoolOp .And [a] pos) tA:=by
 intro wh pins s σ H Q I h
 refine isTrue_and (thn (ha pins s σ H Q I h) fun c s1 e=>?_)
 cases c with
 | true=>exact isTrue_and_nil e
 | false=>exact e
theorem pw_or1 (ha:PT X a tA):PW X (.BoolOp .Or [a] pos) tA:=by
 intro wh pins s σ H Q I h
 refine isTrue_or (thn (ha pins s σ H Q I h) fun c s1 e=>?_)
 cases c with
 | false=>exact isTrue_or_nil e
 | true=>exact e
theorem pw_and (ha:PT X a tA) (hb:PW X (.BoolOp .And (b :: rest) pos) tB'):PW X (.BoolOp .And (a :: b :: rest) pos) (tAnd tA tB'):=by
 intro wh pins s σ H Q I h
 refine isTrue_and (thn (ha pins s σ H _ I h) fun c s1 ⟨H1,I1,q1⟩=>?_)
 cases c with
 | true=>exact hb wh pins s1 σ H1 Q I1 q1
 | false=>exact ⟨H1,I1,q1⟩
theorem pw_or (ha:PT X a tA) (hb:PW X (.BoolOp .Or (b :: rest) pos) tB'):PW X (.BoolOp .Or (a :: b :: rest) pos) (tOr tA tB'):=by
 intro wh pins s σ H Q I h
 refine isTrue_or (thn (ha pins s σ H _ I h) fun c s1 ⟨H1,I1,q1⟩=>?_)
 cases c with
 | true=>exact ⟨H1,I1,q1⟩
 | false=>exact hb wh pins s1 σ H1 Q I1 q1
theorem Qws (ha:PT X a tA):PT X (.UnaryOp .Not a pos) (tNot tA):=by
 intro pins s σ H Q I h
 exact isTrue_not (ha pins s σ H (fun c H1=>Q (!c) H1) I h)
def tOrV (ta tb:TE):TE:=fun σ H Q=>ta σ H fun x H1=>∃ c,x = .bl c∧if c = true then Q (.bl true) H1 else tb σ H1 Q
theorem Qwy {op} {t:TE} (h:PE X a t):PE X (.BoolOp op [a] pos) t:=fun pins s σ H Q I hw=>BoolOp_one (h pins s σ H Q I hw)
theorem pe_or (ha:PE X a ta) (hb:PE X (.BoolOp .Or (b :: rest) pos) tb):PE X (.BoolOp .Or (a :: b :: rest) pos) (tOrV ta tb):=by
 intro pins s σ H Q I h
 refine BoolOp_or (thn (ha pins s σ H _ I h) fun v s1 ⟨x,H1,I1,r1,q1⟩=>?_)
 obtain ⟨c,rfl,q1⟩:=q1
 cases r1
 refine wpAny_truthy_bool ?_
 cases c with
 | false=>exact hb pins s1 σ H1 Q I1 q1
 | true=>exact ⟨.bl true,H1,I1,rfl,q1⟩
def tIf (t:TT) (ta tb:TE):TE:=fun σ H Q=>t σ H fun c H1=>if c = true then ta σ H1 Q else tb σ H1 Q
theorem Qd7 {c:Expr} (hc:PT X c tA) (ha:PE X a ta) (hb:PE X b tb):PE X (.IfExp c a b pos) (tIf tA ta tb):=by
 intro pins s σ H Q I h
 refine wpAny_IfExp (thn (hc pins s σ H _ I h) fun d s1 ⟨H1,I1,q1⟩=>?_)
 cases d with
 | true=>exact ha pins s1 σ H1 Q I1 q1
 | false=>exact hb pins s1 σ H1 Q I1 q1
end
end L2
namespace L2
open PySem PySem.Spec PyProof.Rows
def SqL (K:PySem.W.Frag) (H:Hp) (a:Addr) (xs:List V):Prop :=
 Rd H a (.lst xs) ∨
  ∃ (o:Obj) (its:Array Value) (n:Nat),K.lookup a = some o∧o.cls = .type "list" ∧ o.dict = none∧o.data = .seq its n∧its.size ≤ sizeLine∧Vals xs its.toList
def SqT (K:PySem.W.Frag) (H:Hp) (a:Addr) (xs:List V):Prop :=
 Rd H a (.tup xs) ∨
  ∃ (o:Obj) (its:Array Value) (n:Nat),K.lookup a = some o∧o.cls = .type "tuple" ∧ o.data = .seq its n∧its.size ≤ sizeLine∧Vals xs its.toList
def absV:Value→Option V
 | .none=>some .non
 | .bool b=>some (.bl b)
 | .int i _=>some (.int i)
 | .str x _=>some (.str x)
 | .bytes b _=>some (.byt b)
 | .float b _=>some (.flt b)
 | .ref a=>some (.ref a)
 | .type n=>some (.ty n)
 | _=>none
theorem RelV.abs {x:V} {u:Value} (r:RelV x u):absV u = some x:=by
 cases x with
 | non=>cases r;rfl
 | bl _=>cases r;rfl
 | int _=>obtain ⟨t,rfl⟩:=r;rfl
 | str _=>obtain ⟨t,rfl⟩:=r;rfl
 | byt _=>obtain ⟨t,rfl⟩:=r;rfl
 | flt _=>obtain ⟨t,rfl⟩:=r;rfl
 | ref _=>cases r;rfl
 | ty _=>cases r;rfl
theorem RelV.inj {x y:V} {u:Value} (r:RelV x u) (q:RelV y u):x = y:=Option.some.inj (r.abs.symm.trans q.abs)
theorem Vals.inj:∀ {xs ys:List V} {us:List Value},Vals xs us→Vals ys us→xs = ys
 | _,_,_, .nil, .nil=>rfl
 | _,_,_, .cons r t, .cons r' t'=>by rw [r.inj r',Vals.inj t t']
section
variable {X : Cx} {pins : List (Addr × Obj)} {σ : St} {H : Hp} {s : Shared} {a : Addr} {xs ys : List V}
theorem SqL.of {K:PySem.W.Frag} (h:H a = some (.lst xs)):SqL K H a xs:=.inl (.inl h)
theorem SqT.of {K:PySem.W.Frag} (h:H a = some (.tup xs)):SqT K H a xs:=.inl (.inl h)
theorem Inv.list (I:Inv X pins σ H s) (h:SqL X.K H a xs):∃ its:List Value,Vals xs its∧PlainL s.heap a its.toArray∧xs.length ≤ sizeLine:=by
 rcases h with h | ⟨o,its,n,hk,hc,hd,hs,hz,r⟩
 ·obtain ⟨z,its,n,r,e⟩:=h.ok I.hok
  exact ⟨its,r,⟨_,n,e,rfl,rfl,rfl⟩,z⟩
 ·refine ⟨its.toList,r,⟨o,n,I.kIn a o hk,hc,hd,by simpa using hs⟩,?_⟩
  have e:=r.length
  simp only [Array.length_toList] at e
  omega
theorem Inv.tuple (I:Inv X pins σ H s) (h:SqT X.K H a xs):∃ its:List Value,Vals xs its∧IsTup s.heap a its.toArray∧xs.length ≤ sizeLine:=by
 rcases h with h | ⟨o,its,n,hk,hc,hs,hz,r⟩
 ·obtain ⟨z,its,r,p⟩:=h.ok I.hok
  exact ⟨its,r,p,z⟩
 ·refine ⟨its.toList,r,⟨o,I.kIn a o hk,hc,n,by simpa using hs⟩,?_⟩
  have e:=r.length
  simp only [Array.length_toList] at e
  omega
theorem Inv.list_inj (I:Inv X pins σ H s) (h:SqL X.K H a xs) (h':SqL X.K H a ys):xs = ys:=by
 obtain ⟨its,r,⟨o,n,e,_,_,d⟩,_⟩:=I.list h
 obtain ⟨its',r',⟨o',n',e',_,_,d'⟩,_⟩:=I.list h'
 rw [e] at e';cases e'
 rw [d] at d'
 injection d' with d1 _
 have:its = its':=by simpa using congrArg Array.toList d1
 subst this
 exact r.inj r'
end
abbrev Cx.wish (X:Cx) (E:Value→Shared→Prop):Cx:={ X with xe:=E }
abbrev Cx.nox (X:Cx):Cx:=X.wish fun _ _=>False
theorem Cx.Ok.wish {X:Cx} (ok:X.Ok) (E:Value→Shared→Prop):(X.wish E).Ok :=
 ⟨ok.mod,ok.kind,ok.glob,ok.blt,ok.above,ok.inj,ok.has,ok.cab,ok.hd,ok.frames,ok.stk,ok.exf,ok.bs,ok.bsz,ok.noex,ok.exfs,ok.funs,ok.frf⟩
theorem Cx.Ok.unwish {X:Cx} {E:Value→Shared→Prop} (ok:(X.wish E).Ok):X.Ok :=
 ⟨ok.mod,ok.kind,ok.glob,ok.blt,ok.above,ok.inj,ok.has,ok.cab,ok.hd,ok.frames,ok.stk,ok.exf,ok.bs,ok.bsz,ok.noex,ok.exfs,ok.funs,ok.frf⟩
section
variable {X : Cx} {pins : List (Addr × Obj)} {σ : St} {H : Hp} {s : Shared} {E : Value → Shared → Prop}
theorem Inv.wish (I:Inv X pins σ H s) (E:Value→Shared→Prop):Inv (X.wish E) pins σ H s:=⟨I.ok.wish E,I.os,I.bare,I.base,I.loc,I.cell,I.free,I.freeC,I.pin,I.hok,I.len⟩
theorem Inv.unwish (I:Inv (X.wish E) pins σ H s):Inv X pins σ H s:=⟨I.ok.unwish,I.os,I.bare,I.base,I.loc,I.cell,I.free,I.freeC,I.pin,I.hok,I.len⟩
theorem SP.unwish {D:Ends} {f:Flow} {s':Shared} (h:SP (X.wish E) pins D f s'):SP X pins D f s':=by
 cases f with
 | next=>obtain ⟨σ',H',I,q⟩:=h;exact ⟨σ',H',I.unwish,q⟩
 | brk=>obtain ⟨σ',H',I,q⟩:=h;exact ⟨σ',H',I.unwish,q⟩
 | cont=>obtain ⟨σ',H',I,q⟩:=h;exact ⟨σ',H',I.unwish,q⟩
 | ret u=>obtain ⟨v,σ',H',I,r,q⟩:=h;exact ⟨v,σ',H',I.unwish,r,q⟩
theorem PSs.nox {st:List Stmt} {t:TS} (h:PSs X.nox st t):PSs X st t:=fun pins s σ H D I hw =>
 wpAny_mono (h pins s σ H D (I.wish _) hw) (fun _ _ q=>q.unwish) fun _ _ z=>False.elim z
end
section
variable {X : Cx} {st : Stmt} {rest : List Stmt} {t u : TS} {e : Expr} {te : TE} {pos : Pos}
def Quy:TS:=fun D σ H=>D.nx σ H
def tSeq (t u:TS):TS:=fun D σ H=>t { D with nx:=u D } σ H
theorem Qak:PSs X [] Quy:=fun _ _ σ H _ I h=>wpAny_execs_nil ⟨σ,H,I,h⟩
theorem Qa2 (h1:PS X st t) (h2:PSs X rest u):PSs X (st :: rest) (tSeq t u):=by
 intro pins s σ H D I h
 refine wpAny_execs_cons (thn (h1 pins s σ H { D with nx:=u D } I h) fun f s1 q=>?_)
 cases f with
 | next =>
  obtain ⟨σ',H',I',q⟩:=q
  exact h2 pins s1 σ' H' D I' q
 | ret v=>exact q
 | brk=>exact q
 | cont=>exact q
theorem Qa4 (h1:PS X st t):PSs X [st] t:=by
 intro pins s σ H D I h
 refine wpAny_execs_cons (thn (h1 pins s σ H D I h) fun f s1 q=>?_)
 cases f with
 | next=>exact wpAny_execs_nil q
 | ret v=>exact q
 | brk=>exact q
 | cont=>exact q
theorem Inv.quiet {pins:List (Addr × Obj)} {σ : St} {H:Hp} {s:Shared} (I:Inv X pins σ H s):interactive X.env = false:=by simp [interactive,I.ok.kind]
def tDrop (te:TE):TS:=fun D σ H=>te σ H fun _ H1=>D.nx σ H1
theorem Qaw (he:PE X e te) (hs:swapsWith e none pos.line X.env = pure false:=by rfl):PS X (.Expr e pos) (tDrop te):=by
 intro pins s σ H D I h
 exact wpAny_Expr_any (thn (he pins s σ H _ I h) fun v s1 ⟨x,H1,I1,r1,q1⟩=>⟨σ,H1,I1,q1⟩) I.quiet hs
def tRet (te:TE):TS:=fun D σ H=>te σ H D.rt
theorem Qae (he:PE X e te):PS X (.Return (some e) pos) (tRet te):=by
 intro pins s σ H D I h
 exact wpAny_Return_some (thn (he pins s σ H _ I h) fun v s1 ⟨x,H1,I1,r1,q1⟩=>⟨x,σ,H1,I1,r1,q1⟩)
def tIfS (c:TT) (t u:TS):TS:=fun D σ H=>c σ H fun b H1=>if b = true then t D σ H1 else u D σ H1
theorem Qb6 {c:Expr} {a b:List Stmt} {tc:TT} (hc:PT X c tc) (ha:PSs X a t) (hb:PSs X b u):PS X (.If c a b pos) (tIfS tc t u):=by
 intro pins s σ H D I h
 refine wpAny_If (thn (hc pins s σ H _ I h) fun d s1 ⟨H1,I1,q1⟩=>?_)
 cases d with
 | true=>exact ha pins s1 σ H1 D I1 q1
 | false=>exact hb pins s1 σ H1 D I1 q1
def Quz:TS:=fun _ _ _=>False
theorem Qiy {sts:List Stmt}:PSs X sts Quz:=fun _ _ _ _ _ _ h=>h.elim
end
abbrev TG:=V→St→Hp→(St→Hp→Prop)→Prop
def PG (X:Cx) (target:Expr) (t:TG):Prop :=
 ∀ (pins:List (Addr × Obj)) (s:Shared) (σ : St) (H:Hp) (v:V) (u:Value) (Q:St→Hp→Prop),Inv X pins σ H s→RelV v u→t v σ H Q →
  wpAny (model X.prog X.w) X.A (assign target X.env u) (fun _ s'=>∃ σ' H',Inv X pins σ' H' s'∧Q σ' H') X.xe s
abbrev TSet:=V→V→V→Hp→(Hp→Prop)→Prop
def PSet (X:Cx) (t:TSet):Prop :=
 ∀ (pins:List (Addr × Obj)) (s:Shared) (σ : St) (H:Hp) (o i v:V) (ov iv u:Value) (Q:Hp→Prop),Inv X pins σ H s→RelV o ov→RelV i iv→RelV v u→t o i v H Q →
  wpAny (model X.prog X.w) X.A (setItem ov iv u) (fun _ s'=>∃ H',Inv X pins σ H' s'∧Q H') X.xe s
abbrev TIp:=V→V→Hp→VK→Prop
def PIp (X:Cx) (op:Operator) (t:TIp):Prop :=
 ∀ (pins:List (Addr × Obj)) (s:Shared) (σ : St) (H:Hp) (x y:V) (v u:Value) (Q:VK),Inv X pins σ H s→RelV x v→RelV y u→t x y H Q →
  wpAny (model X.prog X.w) X.A (inplaceOp op v u) (EP X pins σ Q) X.xe s
section
variable {X : Cx} {pos : Pos}
def Qpy (i:Nat):TG:=fun v σ H Q=>Q (σ.set i (some v)) H
theorem Qci {i:Nat} {x:Str} (hN:X.N.Nodup) (hi:X.N[i]? = some x) (hx:Loc X.env.scope x) (hf:X.fn x = true ∨ X.env.scope.names.lookup x = some .local:=by first | exact .inl rfl | exact .inr rfl | assumption):PG X (.Name x pos) (Qpy i):=by
 intro pins s σ H v u Q I r h
 exact wpAny_assign_Name (Qft I hN hi hx r (fun s' I'=>⟨_,H,I',h⟩) hf)
def tAsg (te:TE) (g:TG):TS:=fun D σ H=>te σ H fun x H1=>g x σ H1 D.nx
theorem Qao {i:Nat} {x:Str} {e:Expr} {te:TE} {pos':Pos} (hN:X.N.Nodup) (hi:X.N[i]? = some x) (hx:Loc X.env.scope x) (he:PE X e te) (hs:swapsWith e (some (.Name x pos')) pos.line X.env = pure false:=by rfl) (hf:X.fn x = true ∨ X.env.scope.names.lookup x = some .local:=by first | exact .inl rfl | exact .inr rfl | assumption) :
  PS X (.Assign [.Name x pos'] e pos) (tAsg te (Qpy i)):=by
 intro pins s σ H D I h
 refine wpAny_Assign_Name (thn (he pins s σ H _ I h) fun v s1 ⟨y,H1,I1,r1,q1⟩=>?_) hs
 exact Qft I1 hN hi hx r1 (fun s2 I2=>⟨_,H1,I2,q1⟩) hf
def tAug (i:Nat) (te:TE) (ti:TIp):TS:=fun D σ H=>∃ x,σ[i]? = some (some x)∧te σ H fun y H1=>ti x y H1 fun z H2=>D.nx (σ.set i (some z)) H2
theorem Qhb {i:Nat} {x:Str} {e:Expr} {te:TE} {op:Operator} {ti:TIp} {pos':Pos} (hN:X.N.Nodup) (hi:X.N[i]? = some x) (hx:Loc X.env.scope x) (he:PE X e te) (ho:PIp X op ti) (hf:X.fn x = true ∨ X.env.scope.names.lookup x = some .local:=by first | exact .inl rfl | exact .inr rfl | assumption) :
  PS X (.AugAssign (.Name x pos') op e pos) (tAug i te ti):=by
 intro pins s σ H D I h
 obtain ⟨v,e1,h⟩:=h
 obtain ⟨m,hn,hl⟩:=I.loc
 have vis:Vis X.env.scope x:=by rcases hx with k | k;exact .inl k;exact .inr (.inl k)
 obtain ⟨u,r,l⟩:=hl i x v hi e1 vis
 refine wpAny_AugAssign_Name ?_
 have go:wpAny (model X.prog X.w) X.A (eval e X.env) (fun w s₂=>wpAny (model X.prog X.w) X.A (inplaceOp op u w) (fun r s₃=>wpAny (model X.prog X.w) X.A (storeName X.env x r) (fun _=>SP X pins D .next) X.xe s₃) X.xe s₂) X.xe s:=by
  refine thn (he pins s σ H _ I h) fun w s1 ⟨y,H1,I1,r1,q1⟩=>?_
  refine thn (ho pins s1 σ H1 v y u w _ I1 r r1 q1) fun z s2 ⟨zv,H2,I2,r2,q2⟩=>?_
  exact Qft I2 hN hi hx r2 (fun s3 I3=>⟨_,H2,I3,q2⟩) hf
 rcases l with ⟨hk,hm⟩ | ⟨hk,c,hc,hcell⟩
 ·exact wpAny_loadName_local I.ok.kind hk hn hm go
 ·rcases hk with hk | hk
  ·exact wpAny_loadName_cell I.ok.kind hk hc hcell go
  ·rcases hx with k | k
   ·have:X.env.scope.names.lookup x = some .free:=hk
    rw [k] at this;cases this
   ·have:X.env.scope.names.lookup x = some .free:=hk
    rw [k] at this;cases this
def tAugS (to ti te:TE) (tget:V→V→Hp→VK→Prop) (tip:TIp) (tset:TSet):TS:=fun D σ H=>to σ H fun o H1=>ti σ H1 fun i H2=>tget o i H2 fun x H3=>te σ H3 fun y H4=>tip x y H4 fun z H5=>tset o i z H5 fun H6=>D.nx σ H6
def PGet (X:Cx) (t:V→V→Hp→VK→Prop):Prop :=
 ∀ (pins:List (Addr × Obj)) (s:Shared) (σ : St) (H:Hp) (o i:V) (ov iv:Value) (Q:VK),Inv X pins σ H s→RelV o ov→RelV i iv→t o i H Q →
  wpAny (model X.prog X.w) X.A (getItem ov iv) (EP X pins σ Q) X.xe s
theorem Qu3 {o i e:Expr} {to ti te:TE} {tget:V→V→Hp→VK→Prop} {tip:TIp} {tset:TSet} {op:Operator} {tpos:Pos} (ho:PE X o to) (hi:PE X i ti) (hg:PGet X tget) (he:PE X e te) (hp:PIp X op tip) (hs:PSet X tset)
  (ha:∀ ov iv new,augStore i ov iv new = (do holding [new,ov,iv] (setItem ov iv new);release [new,ov,iv] [];pure .next):=by intros;rfl):PS X (.AugAssign (.Subscript o i tpos) op e pos) (tAugS to ti te tget tip tset):=by
 intro pins s σ H D I h
 refine wpAny_AugAssign_SubscriptAny (thn (ho pins s σ H _ I h) fun ov s1 ⟨x1,H1,I1,r1,q1⟩=>?_) ha
 refine thn (hi pins s1 σ H1 _ I1 q1) fun iv s2 ⟨x2,H2,I2,r2,q2⟩=>?_
 refine thn (hg pins s2 σ H2 x1 x2 ov iv _ I2 r1 r2 q2) fun old s3 ⟨x3,H3,I3,r3,q3⟩=>?_
 refine thn (he pins s3 σ H3 _ I3 q3) fun v s4 ⟨x4,H4,I4,r4,q4⟩=>?_
 refine thn (hp pins s4 σ H4 x3 x4 old v _ I4 r3 r4 q4) fun new s5 ⟨x5,H5,I5,r5,q5⟩=>?_
 exact thn (hs pins s5 σ H5 x1 x2 x5 ov iv new _ I5 r1 r2 r5 q5) fun _ s6 ⟨H6,I6,q6⟩=>⟨σ,H6,I6,q6⟩
def ipI (f:Int→Int→Int):TIp:=fun x y H Q=>∃ i j,x = .int i∧y = .int j∧Q (.int (f i j)) H
theorem Qhh:PIp X .Add (ipI fun i j=>i + j):=by
 intro pins s σ H x y v u Q I r1 r2 h
 obtain ⟨i,j,e1,e2,q⟩:=h
 subst e1;subst e2
 obtain ⟨t,rfl⟩:=r1
 obtain ⟨t',rfl⟩:=r2
 exact iadd_int ⟨.int _,H,I.tok _,⟨_,rfl⟩,q⟩
theorem Qy5:PIp X .Sub (ipI fun i j=>i - j):=by
 intro pins s σ H x y v u Q I r1 r2 h
 obtain ⟨i,j,e1,e2,q⟩:=h
 subst e1;subst e2
 obtain ⟨t,rfl⟩:=r1
 obtain ⟨t',rfl⟩:=r2
 exact isub_int ⟨.int _,H,I.tok _,⟨_,rfl⟩,q⟩
end
section
variable {X : Cx} {pos : Pos}
def Qsi (c:TT) (tb:TS):TS:=fun D σ H=>∃ W:Nat→St→Hp→Prop,(∃ m,W m σ H)∧∀ m σ H,W m σ H →
 c σ H fun b H1=>if b = true then ∃ N:St→Hp→Prop,(∀ σ' H',N σ' H'→∃ m',m' < m∧W m' σ' H')∧tb { D with nx:=N,ct:=N,bk:=D.nx } σ H1 else D.nx σ H1
theorem Qd5 {c:Expr} {body:List Stmt} {tc:TT} {tb:TS} (hp:PassesOwn (model X.prog X.w) X.A X.env X.xe) (hc:PT X c tc) (hb:PSs X body tb):PS X (.While c body [] pos) (Qsi tc tb):=by
 intro pins s σ H D I h
 obtain ⟨W,⟨m0,w0⟩,turn⟩:=h
 refine wpAny_While (codeAny_whileLoop (fun n s'=>∃ σ' H',Inv X pins σ' H' s'∧W n σ' H') ?_ m0 ⟨σ,H,I,w0⟩)
 rintro n s1 ⟨σ1,H1,I1,w1⟩
 refine wpAny_passesOwn hp (thn (hc pins s1 σ1 H1 _ I1 (turn n σ1 H1 w1)) fun b s2 ⟨H2,I2,q2⟩=>?_)
 cases b with
 | true =>
  obtain ⟨N,hN,q2⟩:=q2
  rw [if_pos rfl]
  refine wpAny_passesOwn hp (thn (hb pins s2 σ1 H2 _ I2 q2) fun f s3 q3=>?_)
  cases f with
  | next =>
   obtain ⟨σ3,H3,I3,n3⟩:=q3
   obtain ⟨m',hm,w3⟩:=hN σ3 H3 n3
   exact ⟨m',hm,σ3,H3,I3,w3⟩
  | cont =>
   obtain ⟨σ3,H3,I3,n3⟩:=q3
   obtain ⟨m',hm,w3⟩:=hN σ3 H3 n3
   exact ⟨m',hm,σ3,H3,I3,w3⟩
  | brk=>exact q3
  | ret v=>exact q3
 | false =>
  rw [if_neg Bool.false_ne_true]
  exact wpAny_execs_nil ⟨σ1,H2,I2,q2⟩
end
structure It where
 go:Nat→Hp→Prop
 yld:Nat→Hp→V→Hp→Prop
 stop:Nat→Hp→Prop
def FpOk (X:Cx) (pins:List (Addr × Obj)) (H:Hp) (b:Addr):Prop :=
 H b = none∧b ≠ X.env.locals∧b ∉ X.fs∧(b ∈ X.ex ∨ X.s_0.heap.objs.size ≤ b)∧(∀ x c,X.env.cells.lookup x = some c→c ≠ b)∧∀ p ∈ X.pn ++ pins,p.1 ≠ b
theorem Inv.fpOk {X:Cx} {pins:List (Addr × Obj)} {σ : St} {H H':Hp} {s:Shared} {b:Addr} (I:Inv X pins σ H s) (hb:s.heap.objs.size ≤ b) (hn:H' b = none):FpOk X pins H' b:=by
 refine ⟨hn,Nat.ne_of_gt (Nat.lt_of_lt_of_le I.lt hb),I.nofs hb, .inr (Nat.le_trans I.sz hb),fun x c e z=>?_,fun p hp z=>?_⟩
 ·obtain ⟨v,q⟩:=I.cell x c e
  exact absurd (Nat.lt_of_lt_of_le q.lt (by rw [z];exact hb)) (Nat.lt_irrefl _)
 ·exact absurd (Nat.lt_of_lt_of_le (Heap.lt_size (I.pin p hp).1) (by rw [z];exact hb)) (Nat.lt_irrefl _)
structure Turn (P:Program) (w:World) (K:PySem.W.Frag) (tg:Expr) (J:It) (fp:List Addr) (it:Addr) (tn:Nat→Heap→Prop):Prop where
 mem:it ∈ fp
 obj:∀ i h,tn i h→∀ b ∈ fp,∃ o,h.get? b = some o∧∀ v,o.data ≠ .cell v
 keep:∀ i h h',tn i h→(∀ b ∈ fp,∀ o,h.get? b = some o→h'.get? b = some o)→tn i h'
 item:∀ (X:Cx),X.prog = P→X.w = w→X.K = K→X.calm = true→∀ (i:Nat) (pins:List (Addr × Obj)) (s:Shared) (σ : St) (H:Hp) (E:Value→Shared→Prop),Inv X pins σ H s→(∀ b ∈ fp,FpOk X pins H b)→tn i s.heap→J.go i H →
  wpAny (model P w) X.A (pyNext (.ref it)) (fun r s1=>∃ u,r = some u ∧
   wpAny (model P w) X.A (letOwnedTupleGo tg (.ref it) u) (fun _ s2=>∃ x H',Inv X pins σ H' s2∧RelV x u∧J.yld i H x H'∧tn (i + 1) s2.heap∧∀ b ∈ fp,H' b = none) E s1) E s
 done:∀ (X:Cx),X.prog = P→X.w = w→X.K = K→X.calm = true→∀ (i:Nat) (pins:List (Addr × Obj)) (s:Shared) (σ : St) (H:Hp) (E:Value→Shared→Prop),Inv X pins σ H s→(∀ b ∈ fp,FpOk X pins H b)→tn i s.heap→J.stop i H →
  wpAny (model P w) X.A (pyNext (.ref it)) (fun r s1=>r = none∧Inv X pins σ H s1) E s
 self:∀ (A:Around) (i:Nat) (s:Shared) (Q:Value→Shared→Prop) (E:Value→Shared→Prop),tn i s.heap→Q (.ref it) s→wpAny (model P w) A (pyIter (.ref it)) Q E s
abbrev TI:=St→Hp→(It→Hp→Prop)→Prop
def PIE (X:Cx) (pins:List (Addr × Obj)) (σ : St) (tg:Expr) (R:It→Hp→Prop) (itv:Value) (s2:Shared):Prop :=
 ∃ (it:Addr) (fp:List Addr) (tn:Nat→Heap→Prop) (J:It) (H':Hp),itv = .ref it∧Inv X pins σ H' s2∧Turn X.prog X.w X.K tg J fp it tn∧tn 0 s2.heap∧(∀ b ∈ fp,FpOk X pins H' b)∧R J H'
def PI (X:Cx) (tg iter:Expr) (wi:TI):Prop :=
 ∀ (pins:List (Addr × Obj)) (s:Shared) (σ : St) (H:Hp) (R:It→Hp→Prop),Inv X pins σ H s→wi σ H R →
  wpAny (model X.prog X.w) X.A (eval iter X.env) (fun v s1=>wpAny (model X.prog X.w) X.A (pyIter v) (PIE X pins σ tg R) X.xe s1) X.xe s
theorem Qrw {M:Model} {A:Around} {E:Value→Shared→Prop} {s:Shared} {tg:Expr} {it:Addr} {u:Value} {o:Obj} {n:String} {vs:Array Value} {Q:Unit→Shared→Prop} (ho:s.heap.get? it = some o) (hc:o.cls = .type n) (hd:o.data = .fields vs)
  (hn : ["enumerate", "zip", "dict_itemiterator", "dict_reverseitemiterator", "odict_iterator", "itertools.zip_longest", "itertools.pairwise"].contains n = false) (hQ:Q () s):wpAny M A (letOwnedTupleGo tg (.ref it) u) Q E s:=by
 unfold letOwnedTupleGo
 cases tg <;> first
  | exact wpAny_pure hQ
  | (cases u <;> first
    | exact wpAny_pure hQ
    | (refine wpAny_bind (wpAny_load ho ?_)
       rw [hc,hd]
       show wpAny M A (if (["enumerate", "zip", "dict_itemiterator", "dict_reverseitemiterator", "odict_iterator", "itertools.zip_longest", "itertools.pairwise"].contains n && vs[0]? == some (rawInt _)) = true then _ else _) Q E s
       rw [if_neg (by intro h;rw [hn,Bool.false_and] at h;cases h)]
       exact wpAny_pure hQ))
def Itl (K:PySem.W.Frag) (a:Addr):It :=
 ⟨fun i H=>∃ xs x,SqL K H a xs∧xs[i]? = some x,fun i H x H'=>H' = H∧∀ xs,SqL K H a xs→xs[i]? = some x,fun i H=>∃ xs,SqL K H a xs∧xs.length ≤ i⟩
def Itr (lo:Int) (n:Nat):It:=⟨fun i _=>i < n,fun i H x H'=>H' = H∧x = .int (lo + i),fun i _=>n ≤ i⟩
theorem Qo3 {P:Program} {w:World} {K:PySem.W.Frag} {tg:Expr} (a it:Addr):Turn P w K tg (Itl K a) [it] it (fun i h=>h.IsListIter it a i) where
 mem:=by simp
 obj:=fun i h st b hb=>by
  have e:b = it:=by simpa using hb
  subst e
  obtain ⟨o,e,c,d⟩:=st
  exact ⟨o,e,fun v z=>by rw [d] at z;cases z⟩
 keep:=fun i h h' st k=>st.at fun o e=>k it (by simp) o e
 item:=by
  intro X hP hw hK hc i pins s σ H E I hf st hg
  subst hP hw hK
  obtain ⟨xs,x,hq,hx⟩:=hg
  obtain ⟨its,rv,p,hz⟩:=I.list hq
  obtain ⟨u,hu,ru⟩:=rv.get hx
  obtain ⟨f0,f1,f2,f3,f4,f5⟩:=hf it (by simp)
  refine wpAny_pyNext_list_item st p.isList (x:=u) (by simpa using hu) fun h' st' sb=>?_
  have I1:Inv X pins σ H { s with heap:=h' }:=I.turned (t':=s.toks) (fun b o hb e=>(sb.2 b hb).trans e) f0 f1 f3 f4 f5
  obtain ⟨o,e,c,d⟩:=id st'
  exact ⟨u,rfl,Qrw (s:={ s with heap:=h' }) e c d (by decide) ⟨x,H,I1,ru,⟨rfl,fun ys hy=>by rw [I.list_inj hy hq];exact hx⟩,st',fun b hb=>(hf b hb).1⟩⟩
 done:=by
  intro X hP hw hK hc i pins s σ H E I hf st hg
  subst hP hw hK
  obtain ⟨xs,hq,hx⟩:=hg
  obtain ⟨its,rv,p,hz⟩:=I.list hq
  obtain ⟨f0,f1,f2,f3,f4,f5⟩:=hf it (by simp)
  have hl:=rv.length
  exact wpAny_pyNext_list_end (I.ok.hd hc) st p.isList (by simp;omega) fun h' eb=>⟨rfl,I.turned (t':=s.toks) (fun b o hb e=>eb b o hb e) f0 f1 f3 f4 f5⟩
 self:=fun _ _ _ _ _ st h=>wpAny_pyIter_listiter st h
theorem Qm4 {P:Program} {w:World} {K:PySem.W.Frag} {tg:Expr} (it:Addr) (lo:Int) (n:Nat):Turn P w K tg (Itr lo n) [it] it (fun i h=>IsRangeIter h it (lo + (i:Nat) * 1) ((n:Int) - (i:Nat)) 1) where
 mem:=by simp
 obj:=fun i h st b hb=>by
  have e:b = it:=by simpa using hb
  subst e
  exact ⟨_,st,fun v z=>by
   have z':Data.fields _ = Data.cell v:=z
   cases z'⟩
 keep:=fun i h h' st k=>k it (by simp) _ st
 item:=by
  intro X hP hw hK hc i pins s σ H E I hf st hg
  subst hP hw hK
  obtain ⟨f0,f1,f2,f3,f4,f5⟩:=hf it (by simp)
  have W:=Walks.range (prog:=X.prog) (w:=X.w) (I.ok.hd hc) it lo 1 n
  refine W.item i s _ _ hg st fun v h' tk hv st' kk=>?_
  obtain ⟨t,rfl⟩:=hv
  have I1:Inv X pins σ H { s with heap:=h',toks:=tk }:=I.turned (fun b o hb e=>kk b o (by simpa using hb) e) f0 f1 f3 f4 f5
  refine ⟨_,rfl,Qrw (s:={ s with heap:=h',toks:=tk }) (n := "range_iterator") st' rfl rfl (by decide) ⟨.int (lo + i),H,I1,⟨t,?_⟩,⟨rfl,rfl⟩,st',fun b hb=>(hf b hb).1⟩⟩
  rw [Int.mul_one]
 done:=by
  intro X hP hw hK hc i pins s σ H E I hf st hg
  subst hP hw hK
  obtain ⟨f0,f1,f2,f3,f4,f5⟩:=hf it (by simp)
  exact wpAny_pyNext_range_end (I.ok.hd hc) st (by have:n ≤ i:=hg;omega) fun h' eb=>⟨rfl,I.turned (t':=s.toks) (fun b o hb e=>eb b o hb e) f0 f1 f3 f4 f5⟩
 self:=fun _ _ _ _ _ st h=>wpAny_pyIter_rangeiter st h
end L2
namespace L2
open PySem PySem.Spec PyProof.Rows
section
variable {X : Cx} {tg : Expr}
def iList (K:PySem.W.Frag) (tl:TE):TI:=fun σ H R=>tl σ H fun x H1=>∃ a,x = .ref a∧(∃ xs,SqL K H1 a xs)∧R (Itl K a) H1
theorem Qd6 {l:Expr} {tl:TE} (hl:PE X l tl):PI X tg l (iList X.K tl):=by
 intro pins s σ H R I h
 refine thn (hl pins s σ H _ I h) fun v s1 ⟨x,H1,I1,r1,q1⟩=>?_
 obtain ⟨a,e,⟨xs,hq⟩,q⟩:=q1
 subst e
 cases r1
 obtain ⟨its,rv,p,hz⟩:=I1.list hq
 refine wpAny_pyIter_list p.isList ?_
 refine ⟨s1.heap.objs.size,[s1.heap.objs.size],_,_,H1,rfl,I1.kept (t':=s1.toks) fun b o e=>Heap.get?_push_of_some _ e,Qo3 a _,⟨_,Heap.get?_push_size _ rfl,rfl,rfl⟩,fun b hb=>?_,q⟩
 have e:b = s1.heap.objs.size:=by simpa using hb
 subst e
 exact I1.fpOk (Nat.le_refl _) (I1.hok.fresh (Nat.le_refl _))
theorem Qr5 {pins:List (Addr × Obj)} {σ : St} {H:Hp} {s:Shared} {R:It→Hp→Prop} {E:Value→Shared→Prop} {lo hi:Int} {t u v:Tok} {tk:Nat} (I:Inv X pins σ H s) (h1 : -(2 ^ 62) ≤ lo) (h2:lo < 2 ^ 62) (h3 : -(2 ^ 62) ≤ hi) (h4:hi < 2 ^ 62)
  (q:R (Itr lo (hi - lo).toNat) H):wpAny (model X.prog X.w) X.A (pyIter (.ref s.heap.objs.size)) (PIE X pins σ tg R) E { s with heap:=s.heap.push { cls:=.type "range",data:=.fields #[.int lo t, .int hi u, .int 1 v] },toks:=tk }:=by
 refine wpAny_pyIter_range (IsRange.new ..) (small_one h1 h2 h3 h4) ?_
 have I1:Inv X pins σ H { s with heap:=s.heap.push { cls:=.type "range",data:=.fields #[.int lo t, .int hi u, .int 1 v] },toks:=tk }:=I.kept fun b o e=>Heap.get?_push_of_some _ e
 refine ⟨(s.heap.push { cls:=.type "range",data:=.fields #[.int lo t, .int hi u, .int 1 v] }).objs.size,[(s.heap.push { cls:=.type "range",data:=.fields #[.int lo t, .int hi u, .int 1 v] }).objs.size],_,_,H,rfl,
  I1.kept (t':=tk) fun b o e=>Heap.get?_push_of_some _ e,Qm4 _ lo (hi - lo).toNat,?_,fun b hb=>?_,q⟩
 ·have e1:lo + ((0:Nat):Int) * 1 = lo:=by simp
  have e2:(((hi - lo).toNat:Nat):Int) - ((0:Nat):Int) = Builtin.Range.rangeSize lo hi 1:=by rw [rangeSize_one];split <;> omega
  show IsRangeIter _ _ (lo + ((0:Nat):Int) * 1) ((((hi - lo).toNat:Nat):Int) - ((0:Nat):Int)) 1
  rw [e1,e2]
  exact Heap.get?_push_size _ rfl
 ·have e:b = (s.heap.push { cls:=.type "range",data:=.fields #[.int lo t, .int hi u, .int 1 v] }).objs.size:=by simpa using hb
  subst e
  exact I1.fpOk (Nat.le_refl _) (I1.hok.fresh (Nat.le_refl _))
def iRng1 (ta:TA):TI:=fun σ H R=>ta σ H fun vs H1=>∃ j:Int,vs = [.int j]∧-(2 ^ 62) ≤ j∧j < 2 ^ 62∧R (Itr 0 j.toNat) H1
theorem Qox {a:Expr} {ta:TA} {p pos:Pos} (hg:Gl X "range") (hm:X.mg "range" = none) (ha:PA X [a] ta) (hs:starEach [a] X.env = [(false,eval a X.env)]:=by rfl):PI X tg (.Call (.Name "range" p) [a] [] pos) (iRng1 ta):=by
 intro pins s σ H R I h
 refine Call_ (Qje I hg hm boot_range (PyProof.Rows.callWith_type1 (thn (ha pos pins s σ H _ I h) fun us s1 ⟨vs,H1,I1,r1,q1⟩=>?_) hs rfl))
 obtain ⟨j,e,q1,q2,q⟩:=q1
 subst e
 cases r1 with
 | cons r rr =>
  cases rr
  obtain ⟨t,rfl⟩:=r
  exact call_range_1 (Qr5 I1 (by omega) (by omega) q1 q2 (by simpa using q))
def tFor (wi:TI) (g:TG) (tb:TS):TS:=fun D σ H=>wi σ H fun J H1=>∃ W:Nat→Nat→St→Hp→Prop,(∃ m,W 0 m σ H1)∧∀ i m σ H,W i m σ H →
 (J.stop i H∧D.nx σ H) ∨ (J.go i H∧∃ N:St→Hp→Prop,(∀ σ' H',N σ' H'→∃ m',m' < m∧W (i + 1) m' σ' H')∧∀ x H',J.yld i H x H'→g x σ H' fun σ2 H2=>tb { D with nx:=N,ct:=N,bk:=D.nx } σ2 H2)
def Qj0 (fp:List Addr) (h:Heap):List (Addr × Obj):=fp.filterMap fun b=>(h.get? b).map fun o=>(b,o)
theorem Qf6 {fp:List Addr} {h:Heap} {b:Addr} {o:Obj} (hb:b ∈ fp) (e:h.get? b = some o):(b,o) ∈ Qj0 fp h:=List.mem_filterMap.mpr ⟨b,hb,by rw [e];rfl⟩
theorem Qp6 {fp:List Addr} {h:Heap} {p:Addr × Obj} (hp:p ∈ Qj0 fp h):p.1 ∈ fp∧h.get? p.1 = some p.2:=by
 obtain ⟨b,hb,e⟩:=List.mem_filterMap.mp hp
 cases q:h.get? b with
 | none=>rw [q] at e;cases e
 | some o =>
  rw [q] at e
  have e':(b,o) = p:=Option.some.inj e
  subst e'
  exact ⟨hb,q⟩
theorem Inv.pinned {pins:List (Addr × Obj)} {σ : St} {H:Hp} {s:Shared} {fp:List Addr} (I:Inv X pins σ H s) (hf:∀ b ∈ fp,FpOk X pins H b) (ho:∀ b ∈ fp,∃ o,s.heap.get? b = some o∧∀ v,o.data ≠ .cell v):Inv X (pins ++ Qj0 fp s.heap) σ H s :=
 I.pins_of fun p hp=>(List.mem_append.mp hp).elim (fun z=>I.pin p (List.mem_append_right _ z)) fun z=>by
  obtain ⟨hb,e⟩:=Qp6 z
  obtain ⟨f0,f1,f2,_⟩:=hf p.1 hb
  obtain ⟨o,e',d⟩:=ho p.1 hb
  rw [e] at e';cases e'
  exact ⟨e,f0,f1,f2,d⟩
theorem Inv.unpinned {pins pl:List (Addr × Obj)} {σ : St} {H:Hp} {s:Shared} (I:Inv X (pins ++ pl) σ H s):Inv X pins σ H s:=I.pins_of fun p hp=>I.pin p (List.mem_append_right _ (List.mem_append_left _ hp))
theorem Qos {iter:Expr} {body:List Stmt} {wi:TI} {g:TG} {tb:TS} {pos:Pos} (hp:PassesOwn (model X.prog X.w) X.A X.env X.xe) (hc:X.calm = true) (hi:PI X tg iter wi) (hg:PG X tg g) (hb:PSs X body tb)
  (hs:∀ x,foldedSetIterable iter X.env x = pure x:=by intro _;rfl):PS X (.For tg iter body [] pos) (tFor wi g tb):=by
 intro pins s σ H D I h
 refine wpAny_For (thn (hi pins s σ H _ I h) fun v s1 h1=>thn h1 fun itv s2 h2=>?_) hs
 obtain ⟨it,fp,tn,J,H2,e,I2,T,st2,f2,W,⟨m0,w0⟩,turn⟩:=h2
 subst e
 -- what stays true of the iterator's objects through the loop
 have stat:∀ {H':Hp},(∀ b ∈ fp,H' b = none)→∀ b ∈ fp,FpOk X pins H' b:=fun hn b hb=>⟨hn b hb,(f2 b hb).2⟩
 refine codeAny_forLoop_any (fun n s'=>∃ i σ' H',Inv X pins σ' H' s'∧tn i s'.heap∧(∀ b ∈ fp,H' b = none)∧W i n σ' H') ?_ m0 ⟨0,σ,H2,I2,st2,fun b hb=>(f2 b hb).1,w0⟩
 rintro n s3 ⟨i,σ3,H3,I3,st3,fr3,w3⟩
 rcases turn i n σ3 H3 w3 with ⟨stop,qn⟩ | ⟨go,N,hN,step⟩
 ·refine wpAny_passesOwn hp (thn (T.done X rfl rfl rfl hc i pins s3 σ3 H3 X.xe I3 (stat fr3) st3 stop) fun r s4 ⟨hr,I4⟩=>?_)
  subst hr
  exact wpAny_execs_nil ⟨σ3,H3,I4,qn⟩
 ·refine wpAny_passesOwn hp (thn (T.item X rfl rfl rfl hc i pins s3 σ3 H3 X.xe I3 (stat fr3) st3 go) fun r s4 ⟨u,hr,h4⟩=>?_)
  subst hr
  refine wpAny_passesOwn hp (thn h4 fun _ s5 ⟨x,H5,I5,r5,y5,st5,fr5⟩=>?_)
  have I5':=I5.pinned (stat fr5) (T.obj _ _ st5)
  refine wpAny_passesOwn hp (thn (hg _ s5 σ3 H5 x u _ I5' r5 (step x H5 y5)) fun _ s6 ⟨σ6,H6,I6,q6⟩=>?_)
  refine wpAny_passesOwn hp (thn (hb _ s6 σ6 H6 _ I6 q6) fun f s7 q7=>?_)
  have again:∀ {σ7:St} {H7:Hp},Inv X (pins ++ Qj0 fp s5.heap) σ7 H7 s7→N σ7 H7→∃ m,m < n∧∃ i σ' H',Inv X pins σ' H' s7∧tn i s7.heap∧(∀ b ∈ fp,H' b = none)∧W i m σ' H':=fun {σ7 H7} I7 n7=>by
   obtain ⟨m',hm,w7⟩:=hN σ7 H7 n7
   refine ⟨m',hm,i + 1,σ7,H7,I7.unpinned,T.keep _ _ _ st5 fun b hb o e=>(I7.pin (b,o) (List.mem_append_right _ (List.mem_append_right _ (Qf6 hb e)))).1,fun b hb=>?_,w7⟩
   obtain ⟨o,e,d⟩:=T.obj _ _ st5 b hb
   exact (I7.pin (b,o) (List.mem_append_right _ (List.mem_append_right _ (Qf6 hb e)))).2.1
  cases f with
  | next=>obtain ⟨σ7,H7,I7,n7⟩:=q7;exact again I7 n7
  | cont=>obtain ⟨σ7,H7,I7,n7⟩:=q7;exact again I7 n7
  | brk=>obtain ⟨σ7,H7,I7,q7⟩:=q7;exact ⟨σ7,H7,I7.unpinned,q7⟩
  | ret v=>obtain ⟨x7,σ7,H7,I7,r7,q7⟩:=q7;exact ⟨x7,σ7,H7,I7.unpinned,r7,q7⟩
end
theorem Qs1 {K:PySem.W.Frag} {a:Addr} {xs:List V} {g:TG} {tb:TS} {D:Ends} {σ : St} {H:Hp} (Pv:Nat→St→Hp→Prop) (h0:Pv 0 σ H) (hl:∀ i σ H,i ≤ xs.length→Pv i σ H→SqL K H a xs)
  (hs:∀ i x σ H,xs[i]? = some x→Pv i σ H→g x σ H fun σ2 H2=>tb { D with nx:=Pv (i + 1),ct:=Pv (i + 1),bk:=D.nx } σ2 H2) (hd:∀ σ H,Pv xs.length σ H→D.nx σ H) :
  ∃ W:Nat→Nat→St→Hp→Prop,(∃ m,W 0 m σ H)∧∀ i m σ H,W i m σ H →
   ((Itl K a).stop i H∧D.nx σ H) ∨ ((Itl K a).go i H∧∃ N:St→Hp→Prop,(∀ σ' H',N σ' H'→∃ m',m' < m∧W (i + 1) m' σ' H')∧∀ x H',(Itl K a).yld i H x H'→g x σ H' fun σ2 H2=>tb { D with nx:=N,ct:=N,bk:=D.nx } σ2 H2):=by
 refine ⟨fun i m σ H=>m = xs.length - i∧i ≤ xs.length∧Pv i σ H,⟨xs.length,by simp,Nat.zero_le _,h0⟩,?_⟩
 rintro i m σ H ⟨rfl,hi,p⟩
 have q:=hl i σ H hi p
 by_cases hlt:i < xs.length
 ·refine .inr ⟨⟨xs,xs[i],q,by simp [hlt]⟩,Pv (i + 1),fun σ' H' p'=>⟨xs.length - (i + 1),by omega,rfl,hlt,p'⟩,fun x H' y=>?_⟩
  obtain ⟨e,y⟩:=y
  subst e
  exact hs i x σ _ (y xs q) p
 ·have e:i = xs.length:=by omega
  subst e
  exact .inl ⟨⟨xs,q,Nat.le_refl _⟩,hd σ H p⟩
theorem Qpz {lo:Int} {n:Nat} {g:TG} {tb:TS} {D:Ends} {σ : St} {H:Hp} (Pv:Nat→St→Hp→Prop) (h0:Pv 0 σ H)
  (hs:∀ i σ H,i < n→Pv i σ H→g (.int (lo + i)) σ H fun σ2 H2=>tb { D with nx:=Pv (i + 1),ct:=Pv (i + 1),bk:=D.nx } σ2 H2) (hd:∀ σ H,Pv n σ H→D.nx σ H) :
  ∃ W:Nat→Nat→St→Hp→Prop,(∃ m,W 0 m σ H)∧∀ i m σ H,W i m σ H →
   ((Itr lo n).stop i H∧D.nx σ H) ∨ ((Itr lo n).go i H∧∃ N:St→Hp→Prop,(∀ σ' H',N σ' H'→∃ m',m' < m∧W (i + 1) m' σ' H')∧∀ x H',(Itr lo n).yld i H x H'→g x σ H' fun σ2 H2=>tb { D with nx:=N,ct:=N,bk:=D.nx } σ2 H2):=by
 refine ⟨fun i m σ H=>m = n - i∧i ≤ n∧Pv i σ H,⟨n,by simp,Nat.zero_le _,h0⟩,?_⟩
 rintro i m σ H ⟨rfl,hi,p⟩
 by_cases hlt:i < n
 ·refine .inr ⟨hlt,Pv (i + 1),fun σ' H' p'=>⟨n - (i + 1),by omega,rfl,hlt,p'⟩,fun x H' y=>?_⟩
  obtain ⟨e,y⟩:=y
  subst e y
  exact hs i σ _ hlt p
 ·have e:i = n:=by omega
  subst e
  exact .inl ⟨Nat.le_refl _,hd σ H p⟩
end L2
namespace L2
open PySem PySem.Spec PyProof.Rows
abbrev R2:=V→V→Hp→VK→Prop
def OpR (X:Cx) (f:Value→Value→Sem Value) (r:R2):Prop :=
 ∀ (pins:List (Addr × Obj)) (s:Shared) (σ : St) (H:Hp) (x y:V) (v u:Value) (Q:VK),Inv X pins σ H s→RelV x v→RelV y u→r x y H Q →
  wpAny (model X.prog X.w) X.A (f v u) (EP X pins σ Q) X.xe s
def UnR (X:Cx) (f:Value→Sem Value) (r:V→Hp→VK→Prop):Prop :=
 ∀ (pins:List (Addr × Obj)) (s:Shared) (σ : St) (H:Hp) (x:V) (v:Value) (Q:VK),Inv X pins σ H s→RelV x v→r x H Q →
  wpAny (model X.prog X.w) X.A (f v) (EP X pins σ Q) X.xe s
def Qh6 (X:Cx) (f:Value) (r:List V→Hp→VK→Prop):Prop :=
 ∀ (pins:List (Addr × Obj)) (s:Shared) (σ : St) (H:Hp) (xs:List V) (us:List Value) (Q:VK),Inv X pins σ H s→Vals xs us→r xs H Q →
  wpAny (model X.prog X.w) X.A (call f us) (EP X pins σ Q) X.xe s
def tOp (r:R2) (ta tb:TE):TE:=fun σ H Q=>ta σ H fun x H1=>tb σ H1 fun y H2=>r x y H2 Q
def tUn (r:V→Hp→VK→Prop) (ta:TE):TE:=fun σ H Q=>ta σ H fun x H1=>r x H1 Q
def rI0 (g:Int→Int→V):R2:=fun x y H Q=>∃ i j,x = .int i∧y = .int j∧Q (g i j) H
def rU (g:Int→V):V→Hp→VK→Prop:=fun x H Q=>∃ i,x = .int i∧Q (g i) H
section
variable {X : Cx} {a b c : Expr} {ta tb tc : TE} {pos : Pos}
theorem binT (ha:PE X a ta) (hb:PE X b tb) {pins:List (Addr × Obj)} {s:Shared} {σ : St} {H:Hp} {R:V→V→Hp→Prop} (I:Inv X pins σ H s)
  (h:ta σ H fun x H1=>tb σ H1 fun y H2=>R x y H2) {Q:Value→Shared→Prop} {f:Value→Value→Sem Value}
  (hf:∀ v u s2 x y H2,Inv X pins σ H2 s2→RelV x v→RelV y u→R x y H2→wpAny (model X.prog X.w) X.A (f v u) Q X.xe s2) :
  wpAny (model X.prog X.w) X.A (eval a X.env) (fun v s₁=>wpAny (model X.prog X.w) X.A (eval b X.env) (fun u s₂=>wpAny (model X.prog X.w) X.A (f v u) Q X.xe s₂) X.xe s₁) X.xe s:=by
 refine thn (ha pins s σ H _ I h) fun v s1 ⟨x,H1,I1,r1,q1⟩=>?_
 refine thn (hb pins s1 σ H1 _ I1 q1) fun u s2 ⟨y,H2,I2,r2,q2⟩=>?_
 exact hf v u s2 x y H2 I2 r1 r2 q2
theorem Qbl {op:Operator} {r:R2} (ho:OpR X (binaryOp op) r) (ha:PE X a ta) (hb:PE X b tb):PE X (.BinOp a op b pos) (tOp r ta tb):=by
 intro pins s σ H Q I h
 exact wpAny_BinOp (binT ha hb I h fun v u s2 x y H2 I2 rx ry q=>ho pins s2 σ H2 x y v u Q I2 rx ry q)
theorem Qr8 {op:UnaryOp} {r:V→Hp→VK→Prop} (ho:UnR X (unaryOp op) r) (ha:PE X a ta):PE X (.UnaryOp op a pos) (tUn r ta):=by
 intro pins s σ H Q I h
 exact UnaryOp_ (thn (ha pins s σ H _ I h) fun v s1 ⟨x,H1,I1,r1,q1⟩=>ho pins s1 σ H1 x v Q I1 r1 q1)
theorem opI0 {f:Value→Value→Sem Value} {g:Int→Int→Int}
  (rule:∀ (i j:Int) (t u:Tok) (s:Shared) (Q:Value→Shared→Prop) (E:Value→Shared→Prop),Q (.int (g i j) s.toks) { s with toks:=s.toks + 1 }→wpAny (model X.prog X.w) X.A (f (.int i t) (.int j u)) Q E s) :
  OpR X f (rI0 fun i j=>.int (g i j)):=by
 intro pins s σ H x y v u Q I rx ry h
 obtain ⟨i,j,rfl,rfl,q⟩:=h
 obtain ⟨t,rfl⟩:=rx
 obtain ⟨t',rfl⟩:=ry
 exact rule i j t t' s _ _ ⟨.int (g i j),H,I.tok _,⟨_,rfl⟩,q⟩
theorem opB0 {f:Value→Value→Sem Value} {g:Int→Int→Bool}
  (rule:∀ (i j:Int) (t u:Tok) (s:Shared) (Q:Value→Shared→Prop) (E:Value→Shared→Prop),Q (.bool (g i j)) s→wpAny (model X.prog X.w) X.A (f (.int i t) (.int j u)) Q E s) :
  OpR X f (rI0 fun i j=>.bl (g i j)):=by
 intro pins s σ H x y v u Q I rx ry h
 obtain ⟨i,j,rfl,rfl,q⟩:=h
 obtain ⟨t,rfl⟩:=rx
 obtain ⟨t',rfl⟩:=ry
 exact rule i j t t' s _ _ ⟨.bl (g i j),H,I,rfl,q⟩
theorem Qd0:OpR X (binaryOp .Add) (rI0 fun i j=>.int (i + j)):=opI0 fun _ _ _ _ _ _ _ q=>add_int q
theorem Qt4:OpR X (binaryOp .Sub) (rI0 fun i j=>.int (i - j)):=opI0 fun _ _ _ _ _ _ _ q=>sub_int q
theorem unI {f:Value→Sem Value} {g:Int→Int}
  (rule:∀ (i:Int) (t:Tok) (s:Shared) (Q:Value→Shared→Prop) (E:Value→Shared→Prop),Q (.int (g i) s.toks) { s with toks:=s.toks + 1 }→wpAny (model X.prog X.w) X.A (f (.int i t)) Q E s) :
  UnR X f (rU fun i=>.int (g i)):=by
 intro pins s σ H x v Q I rx h
 obtain ⟨i,rfl,q⟩:=h
 obtain ⟨t,rfl⟩:=rx
 exact rule i t s _ _ ⟨.int (g i),H,I.tok _,⟨_,rfl⟩,q⟩
theorem Ql3:UnR X (unaryOp .USub) (rU fun i=>.int (-i)):=unI fun _ _ _ _ _ q=>neg_int q
end
def scal:V→V→Bool
 | .non, .non=>true | .non, .int _=>true | .int _, .non=>true | .non, .bl _=>true | .bl _, .non=>true | .non, .str _=>true | .str _, .non=>true
 | .int _, .int _=>true | .bl _, .bl _=>true | .str _, .str _=>true | .byt _, .byt _=>true
 | .int _, .str _=>true | .str _, .int _=>true | .bl _, .str _=>true | .str _, .bl _=>true
 | _,_=>false
def rEq:R2:=fun x y H Q=>scal x y = true∧Q (.bl (decide (x = y))) H
def rNe:R2:=fun x y H Q=>scal x y = true∧Q (.bl (!decide (x = y))) H
theorem Qq9 {i j:Int}:decide (V.int i = V.int j) = (i == j):=by
 rw [Bool.eq_iff_iff]
 simp
theorem Qtj {i j:Bool}:decide (V.bl i = V.bl j) = (i == j):=by
 rw [Bool.eq_iff_iff]
 simp
theorem Qq8 {i j:Str}:decide (V.str i = V.str j) = (i == j):=by
 rw [Bool.eq_iff_iff]
 simp
theorem Qqb {i j:Array UInt8}:decide (V.byt i = V.byt j) = (i.toList == j.toList):=by
 rw [Bool.eq_iff_iff]
 cases i
 cases j
 simp
section
variable {X : Cx} {a b c : Expr} {ta tb tc : TE} {pos : Pos}
theorem Qb7 {pins:List (Addr × Obj)} {σ : St} {H:Hp} {s:Shared} {Q:VK} {k k':Bool} (I:Inv X pins σ H s) (q:Q (.bl k) H) (e:k = k'):EP X pins σ Q (.bool k') s:=by
 subst e
 exact ⟨.bl k,H,I,rfl,q⟩
theorem Qc1:OpR X (compareOp .Eq) rEq:=by
 intro pins s σ H x y v u Q I rx ry h
 obtain ⟨hs,q⟩:=h
 cases x with
 | non =>
  cases rx
  cases y with
  | non=>cases ry;exact PySem.EqNone.eq_none_none (Qb7 I q (by simp))
  | bl j=>cases ry;exact PySem.EqNone.eq_none_bool (Qb7 I q (by simp))
  | int j=>obtain ⟨t',rfl⟩:=ry;exact PySem.EqNone.eq_none_int (Qb7 I q (by simp))
  | str j=>obtain ⟨t',rfl⟩:=ry;exact PySem.EqNone.eq_none_str (Qb7 I q (by simp))
  | _=>exact absurd (show false = true from hs) Bool.false_ne_true
 | bl i =>
  cases rx
  cases y with
  | non=>cases ry;exact PySem.EqNone.eq_bool_none (Qb7 I q (by simp))
  | bl j=>cases ry;exact eq_bool (Qb7 I q Qtj)
  | str j=>obtain ⟨t',rfl⟩:=ry;exact PySem.EqMixed.eq_bool_str (Qb7 I q (by simp))
  | _=>exact absurd (show false = true from hs) Bool.false_ne_true
 | int i =>
  obtain ⟨t,rfl⟩:=rx
  cases y with
  | non=>cases ry;exact PySem.EqNone.eq_int_none (Qb7 I q (by simp))
  | int j=>obtain ⟨t',rfl⟩:=ry;exact eq_int (Qb7 I q Qq9)
  | str j=>obtain ⟨t',rfl⟩:=ry;exact PySem.EqMixed.eq_int_str (Qb7 I q (by simp))
  | _=>exact absurd (show false = true from hs) Bool.false_ne_true
 | str i =>
  obtain ⟨t,rfl⟩:=rx
  cases y with
  | non=>cases ry;exact PySem.EqNone.eq_str_none (Qb7 I q (by simp))
  | bl j=>cases ry;exact PySem.EqMixed.eq_str_bool (Qb7 I q (by simp))
  | int j=>obtain ⟨t',rfl⟩:=ry;exact PySem.EqMixed.eq_str_int (Qb7 I q (by simp))
  | str j=>obtain ⟨t',rfl⟩:=ry;exact eq_str (Qb7 I q Qq8)
  | _=>exact absurd (show false = true from hs) Bool.false_ne_true
 | byt i =>
  obtain ⟨t,rfl⟩:=rx
  cases y with
  | byt j=>obtain ⟨t',rfl⟩:=ry;exact PySem.W.eq_bytes (Qb7 I q Qqb)
  | _=>exact absurd (show false = true from hs) Bool.false_ne_true
 | _=>cases y <;> exact absurd (show false = true from hs) Bool.false_ne_true
theorem op_ne:OpR X (compareOp .NotEq) rNe:=by
 intro pins s σ H x y v u Q I rx ry h
 obtain ⟨hs,q⟩:=h
 cases x with
 | non =>
  cases rx
  cases y with
  | non=>cases ry;exact PySem.EqNone.ne_none_none (Qb7 I q (by simp))
  | bl j=>cases ry;exact PySem.EqNone.ne_none_bool (Qb7 I q (by simp))
  | int j=>obtain ⟨t',rfl⟩:=ry;exact PySem.EqNone.ne_none_int (Qb7 I q (by simp))
  | str j=>obtain ⟨t',rfl⟩:=ry;exact PySem.EqNone.ne_none_str (Qb7 I q (by simp))
  | _=>exact absurd (show false = true from hs) Bool.false_ne_true
 | bl i =>
  cases rx
  cases y with
  | non=>cases ry;exact PySem.EqNone.ne_bool_none (Qb7 I q (by simp))
  | bl j=>cases ry;exact ne_bool (Qb7 I q (congrArg not Qtj))
  | str j=>obtain ⟨t',rfl⟩:=ry;exact PySem.EqMixed.ne_bool_str (Qb7 I q (by simp))
  | _=>exact absurd (show false = true from hs) Bool.false_ne_true
 | int i =>
  obtain ⟨t,rfl⟩:=rx
  cases y with
  | non=>cases ry;exact PySem.EqNone.ne_int_none (Qb7 I q (by simp))
  | int j=>obtain ⟨t',rfl⟩:=ry;exact ne_int (Qb7 I q (congrArg not Qq9))
  | str j=>obtain ⟨t',rfl⟩:=ry;exact PySem.EqMixed.ne_int_str (Qb7 I q (by simp))
  | _=>exact absurd (show false = true from hs) Bool.false_ne_true
 | str i =>
  obtain ⟨t,rfl⟩:=rx
  cases y with
  | non=>cases ry;exact PySem.EqNone.ne_str_none (Qb7 I q (by simp))
  | bl j=>cases ry;exact PySem.EqMixed.ne_str_bool (Qb7 I q (by simp))
  | int j=>obtain ⟨t',rfl⟩:=ry;exact PySem.EqMixed.ne_str_int (Qb7 I q (by simp))
  | str j=>obtain ⟨t',rfl⟩:=ry;exact ne_str (Qb7 I q (congrArg not Qq8))
  | _=>exact absurd (show false = true from hs) Bool.false_ne_true
 | byt i =>
  obtain ⟨t,rfl⟩:=rx
  cases y with
  | byt j=>obtain ⟨t',rfl⟩:=ry;exact PySem.W.ne_bytes (Qb7 I q (congrArg not Qqb))
  | _=>exact absurd (show false = true from hs) Bool.false_ne_true
 | _=>cases y <;> exact absurd (show false = true from hs) Bool.false_ne_true
theorem Qnd:OpR X (compareOp .Lt) (rI0 fun i j=>.bl (decide (i < j))):=opB0 fun _ _ _ _ _ _ _ q=>lt_int q
theorem op_le:OpR X (compareOp .LtE) (rI0 fun i j=>.bl (decide (i ≤ j))):=opB0 fun _ _ _ _ _ _ _ q=>le_int q
theorem Qg8:OpR X (compareOp .Gt) (rI0 fun i j=>.bl (decide (j < i))):=opB0 fun _ _ _ _ _ _ _ q=>gt_int q
theorem Qap (b:Expr) {op:CmpOp} (h:op ≠ .In:=by decide) (h2:op ≠ .NotIn:=by decide):behindInMarks op b = false:=by
 have e1:(op == CmpOp.In) = false:=by cases op <;> first | rfl | exact absurd rfl h
 have e2:(op == CmpOp.NotIn) = false:=by cases op <;> first | rfl | exact absurd rfl h2
 cases b <;> simp [behindInMarks,e1,e2]
theorem Qg5 {op:CmpOp} {r:R2} (ho:OpR X (compareOp op) r) (ha:PE X a ta) (hb:PE X b tb) (hm:behindInMarks op b = false):PE X (.Compare a [op] [b] pos) (tOp r ta tb):=by
 intro pins s σ H Q I h
 exact wpAny_Compare1 (binT ha hb I h fun v u s2 x y H2 I2 rx ry q=>ho pins s2 σ H2 x y v u Q I2 rx ry q) hm
def Qg0 (t:TE):TT:=fun σ H Q=>t σ H fun x H'=>∃ k,x = .bl k∧Q k H'
theorem Qac {op:CmpOp} {r:R2} (ho:OpR X (compareOp op) r) (ha:PE X a ta) (hb:PE X b tb) (hm:behindInMarks op b = false):PT X (.Compare a [op] [b] pos) (Qg0 (tOp r ta tb)):=by
 intro pins s σ H Q I h
 refine wpAny_isTrue_Compare1 (thn (ha pins s σ H _ I h) fun v s1 ⟨x,H1,I1,r1,q1⟩=>thn (hb pins s1 σ H1 _ I1 q1) fun u s2 ⟨y,H2,I2,r2,q2⟩ =>
  thn (ho pins s2 σ H2 x y v u _ I2 r1 r2 q2) fun c s3 ⟨z,H3,I3,r3,k,e,q3⟩=>?_) hm
 subst e
 cases r3
 exact wpAny_truthy_bool ⟨H3,I3,q3⟩
def Qv4 (r r':R2) (ta tb tc:TE):TE:=fun σ H Q=>ta σ H fun x H1=>tb σ H1 fun y H2=>r x y H2 fun z H3=>∃ k,z = .bl k ∧
 (if k = true then tc σ H3 fun w' H4=>r' y w' H4 Q else Q (.bl false) H3)
theorem Qr6 {op op':CmpOp} {r r':R2} (ho:OpR X (compareOp op) r) (ho':OpR X (compareOp op') r') (ha:PE X a ta) (hb:PE X b tb) (hc:PE X c tc)
  (hm:lastMarks [op,op'] [b,c] = false:=by with_unfolding_all rfl):PT X (.Compare a [op,op'] [b,c] pos) (Qg0 (Qv4 r r' ta tb tc)):=by
 intro pins s σ H Q I h
 refine isTrue_chain (thn (ha pins s σ H _ I h) fun v s1 ⟨x,H1,I1,r1,q1⟩=>test_link (thn (hb pins s1 σ H1 _ I1 q1) fun u s2 ⟨y,H2,I2,r2,q2⟩ =>
  thn (ho pins s2 σ H2 x y v u _ I2 r1 r2 q2) fun d s3 ⟨z,H3,I3,r3,k,e,q3⟩=>?_)) hm
 subst e
 cases r3
 refine wpAny_truthy_bool ?_
 cases k with
 | false =>
  obtain ⟨k',e',q'⟩:=q3
  cases e'
  exact ite_ff ⟨H3,I3,q'⟩
 | true =>
  refine ite_tt (test_last (thn (hc pins s3 σ H3 _ I3 q3) fun w' s4 ⟨z',H4,I4,r4,q4⟩=>thn (ho' pins s4 σ H4 y z' u w' _ I4 r2 r4 q4) fun d' s5 ⟨z2,H5,I5,r5,k2,e2,q5⟩=>?_))
  subst e2
  cases r5
  exact wpAny_truthy_bool ⟨H5,I5,q5⟩
theorem Qgh:(sizeLine:Nat) < 2 ^ 63:=by rw [sizeLine_eq];decide
theorem Qaq:OpR X (binaryOp .Add) (fun x y H Q=>∃ i j,x = .str i∧y = .str j∧i.length + j.length ≤ sizeLine∧Q (.str (i ++ j)) H):=by
 intro pins s σ H x y v u Q I rx ry h
 obtain ⟨i,j,rfl,rfl,hz,q⟩:=h
 obtain ⟨t,rfl⟩:=rx
 obtain ⟨t',rfl⟩:=ry
 exact add_str (fun t' tk=>⟨.str (i ++ j),H,I.tok _,⟨_,rfl⟩,q⟩) hz
theorem Qm3 {x:V} {us:List Value} (r:Vals [x] us):∃ u,us = [u]∧RelV x u:=by
 cases r with
 | cons r1 r2=>cases r2;exact ⟨_,rfl,r1⟩
theorem Qfn:Qh6 X (.type "str") (fun xs H Q=>∃ i,xs = [.int i]∧i.natAbs.log2 < 1920∧Q (.str (toString i)) H):=by
 intro pins s σ H xs us Q I r h
 obtain ⟨i,rfl,hz,q⟩:=h
 obtain ⟨u,rfl,t,rfl⟩:=Qm3 r
 exact PySem.P.str_of_int hz ⟨.str _,H,I.tok _,⟨_,rfl⟩,q⟩
theorem Qs8:Qh6 X (.builtin "ord") (fun xs H Q=>∃ x,xs = [.str x]∧x.length = 1∧Q (.int (x.cps.getD 0 0:Nat)) H):=by
 intro pins s σ H xs us Q I r h
 obtain ⟨x,rfl,hz,q⟩:=h
 obtain ⟨u,rfl,t,rfl⟩:=Qm3 r
 exact ord_of_one hz ⟨.int _,H,I.tok _,⟨_,rfl⟩,q⟩
end
end L2
namespace L2
open PySem PySem.Spec PyProof.Rows
structure ObjM (h:Heap) (x dx C:Addr) (mA:Str→Option Value):Prop where
 obj:h.get? x = some (PySem.W.instObj C dx)
 ns:h.Ns1 dx mA
 ne:dx ≠ x
theorem Qgg {h:Heap} {dx:Addr} {mA:Str→Option Value} (n:h.Ns1 dx mA):∃ od,h.get? dx = some od∧∀ name,PySem.W.lookIn name od = some (mA name):=by
 obtain ⟨o,es,ep,ho,hd,hk,_,hm⟩:=n
 refine ⟨o,ho,fun name=>?_⟩
 have e:=hm name
 unfold nsFind findBy at e
 rw [← Array.find?_toList] at e
 unfold PySem.W.lookIn
 rw [hd]
 dsimp only
 split
 ·rename_i y q
  rw [q] at e
  exact congrArg some e
 ·rename_i q
  rw [q] at e
  have a:es.toList.any (·.refKey) = false:=by
   rw [List.any_eq_false]
   intro y hy
   obtain ⟨z,t,hkey⟩:=hk y (Array.mem_toList_iff.mp hy)
   simp [DictEntry.refKey,hkey]
  have a' : ¬ es.toList.any (·.refKey) = true:=by rw [a];exact Bool.false_ne_true
  rw [if_neg a']
  exact congrArg some e
theorem ObjM.look {h:Heap} {x dx C:Addr} {mA:Str→Option Value} (I:ObjM h x dx C mA):∃ od,PySem.W.InstAt h x (PySem.W.instObj C dx) C (some od)∧∀ name,PySem.W.lookIn name od = some (mA name) :=
 let ⟨od,ho,hl⟩:=Qgg I.ns
 ⟨od,⟨I.obj,rfl,rfl,ho⟩,hl⟩
section
variable {prog : Program} {w : World} {A : Around} {E : Value → Shared → Prop} {s : Shared} {K : PySem.W.Frag} {x dx C f : Addr} {mA : Str → Option Value} {name : Str} {v : Value}
theorem Quk {expr:Bool} {Q:Value→Shared→Prop} (X:K.In s.heap) (I:ObjM s.heap x dx C mA) (hg:PySem.W.plainGet K C name = true) (hh:PySem.W.hasDictIn K C = true)
  (ha:PySem.W.findIn K (.ref C) name = some none) (hv:mA name = some v) (hv':PySem.W.handedIn v = true) (h:Q v { s with toks:=s.toks + 1 }) :
  wpAny (model prog w) A (getAttr (.ref x) name expr) Q E s:=by
 obtain ⟨od,J,hl⟩:=I.look
 exact PySem.W.get_value X J (PySem.W.plainGet_of hg).1 (PySem.W.findObj_own hh ha rfl (by rw [hl,hv])) hv' h
theorem Qry {pl:Sem Bool} {Q:Value × List Value→Shared→Prop} (X:K.In s.heap) (I:ObjM s.heap x dx C mA) (hg:PySem.W.plainGet K C name = true)
  (hf:PySem.W.findIn K (.ref C) name = some (some (.ref f))) (ht:PySem.W.isFn K (.ref f) = true) (hv:mA name = none) (h:Q (.ref f,[.ref x]) s) :
  wpAny (model prog w) A (getMethod (.ref x) name pl) Q E s:=by
 obtain ⟨od,J,hl⟩:=I.look
 exact PySem.W.method_fn X J (PySem.W.plainGet_of hg).1 (PySem.W.plainGet_of hg).2 hf (beq_iff_eq.mp ht) (by show (PySem.W.lookIn name od).map (·.isSome) = some false;rw [hl,hv];rfl) h
theorem Qtz {ns:List Str} {Q:Unit→Shared→Prop} (X:K.In s.heap) (I:ObjM s.heap x dx C mA)
  (hs:PySem.W.findIn K (.ref C) "__setattr__" = some (some (.builtin "object.__setattr__"))) (hp:PySem.W.plainOver K C = true) (ht:PySem.W.takerIn K C name = some none) (hh:PySem.W.hasDictIn K C = true)
  (hw:PySem.Within mA ns) (hsz:ns.length ≤ sizeLine)
  (h:∀ h',ObjM h' x dx C (fun y=>if y = name then some v else mA y)→Heap.SameBut dx s.heap h'→Q () { s with heap:=h',toks:=s.toks + 2 }) :
  wpAny (model prog w) A (setAttr (.ref x) name v) Q E s:=by
 obtain ⟨od,J,hl⟩:=I.look
 refine PySem.W.set_plain X J hs (PySem.W.osa_open (s:={ s with toks:=s.toks + 1 }) (r:=none) X J hp ht fun b=>?_)
 obtain ⟨cd,hc,hd'⟩:=PySem.W.any_some hh
 have hx:s.heap.get? x = some ⟨.ref C,some dx, .plain,#[]⟩:=I.obj
 refine wpAny_bind (wpAny_pure (wpAny_bind (wpAny_bind (wpAny_loadPart hx (wpAny_bind (PySem.W.Looks.here (s:={ s with toks:=s.toks + 1 }) (PySem.W.looks_clsIn X hc) ?_))))))
 rw [hd']
 refine wpAny_pure (a:=some dx) (wpAny_bind (wpAny_pure (wpAny_bind ?_)))
 refine wpAny_nsSet1 (s:={ s with toks:=s.toks + 1 }) I.ns fun h' hn2 hs2=>?_
 obtain ⟨oD,esD,epD,hoD,hdD,hcD⟩:=hn2.count (PySem.Within.cons name v hw)
 refine wpAny_bind (wpAny_lookBehind hoD (by rw [hdD];exact pastItsLine_dict (Nat.le_trans hcD (by rw [List.length_cons];omega))) ?_)
 exact wpAny_pure (h _ ⟨(hs2.2 _ (Ne.symm I.ne)).trans I.obj,hn2,I.ne⟩ hs2)
theorem Qrq {R:Result→Shared→Prop} {vs:List Value} {kw:List (Str × Value)} (X:K.In s.heap) (hm:PySem.W.makesIn K C = true)
  (hi:PySem.W.findIn K (.ref C) "__init__" = some (some (.ref f))) (hf:PySem.W.typeIn K (.ref f) = some (.type "function"))
  (h:codeAny (model prog w) (A.under (.builtin "type.__call__" ⟨.ref C :: vs,kw⟩)) (.call (.ref f) ⟨.ref (s.heap.objs.size + 1) :: vs,kw⟩) (PySem.W.InitBack (s.heap.objs.size + 1) R)
   { s with heap:=(s.heap.push PySem.W.emptyDict).push (PySem.W.instObj C s.heap.objs.size) }) :
  codeAny (model prog w) A (.call (.ref C) ⟨vs,kw⟩) R s:=by
 obtain ⟨hh,g,d,t,os⟩:=s
 exact PySem.W.make_core (PySem.W.makes_of X hm) (PySem.W.looks_findIn X hi) (fun self=>PySem.W.bind_fn X self hf) (.inl rfl) h
end
def putF (f:Str) (v:V):List (Str × V)→List (Str × V)
 | []=>[(f,v)]
 | (g,x) :: r=>if g = f then (g,v) :: r else (g,x) :: putF f v r
theorem Qej (f g:Str) (v:V):∀ fs:List (Str × V),(putF f v fs).lookup g = if g = f then some v else fs.lookup g
 | []=>by
  show List.lookup g [(f,v)] = _
  by_cases h:g = f
  ·have hb:(g == f) = true:=beq_iff_eq.mpr h
   simp only [List.lookup,hb,if_pos h]
  ·have hb:(g == f) = false:=beq_eq_false_iff_ne.mpr h
   simp only [List.lookup,hb,if_neg h]
 | (k,x) :: r=>by
  have ih:=Qej f g v r
  rw [show putF f v ((k,x) :: r) = (if k = f then (k,v) :: r else (k,x) :: putF f v r) from rfl]
  by_cases hk:k = f
  ·rw [if_pos hk]
   by_cases h:g = k
   ·have hb:(g == k) = true:=beq_iff_eq.mpr h
    simp only [List.lookup,hb,if_pos (h.trans hk)]
   ·have hb:(g == k) = false:=beq_eq_false_iff_ne.mpr h
    simp only [List.lookup,hb,if_neg (fun e:g = f=>h (e.trans hk.symm))]
  ·rw [if_neg hk]
   by_cases h:g = k
   ·have hb:(g == k) = true:=beq_iff_eq.mpr h
    simp only [List.lookup,hb,if_neg (fun e:g = f=>hk (h.symm.trans e))]
   ·have hb:(g == k) = false:=beq_eq_false_iff_ne.mpr h
    simp only [List.lookup,hb]
    exact ih
theorem Qdv (f:Str) (v:V):∀ fs:List (Str × V),f ∈ (putF f v fs).map (·.1)∧∀ g,g ∈ fs.map (·.1)→g ∈ (putF f v fs).map (·.1)
 | []=>⟨by simp [putF],fun g h=>by simp at h⟩
 | (k,x) :: r=>by
  obtain ⟨i1,i2⟩:=Qdv f v r
  rw [show putF f v ((k,x) :: r) = (if k = f then (k,v) :: r else (k,x) :: putF f v r) from rfl]
  by_cases hk:k = f
  ·rw [if_pos hk]
   subst hk
   exact ⟨by simp,fun g h=>by simpa using h⟩
  ·rw [if_neg hk]
   refine ⟨?_,fun g h=>?_⟩
   ·rw [List.map_cons]
    exact List.mem_cons_of_mem _ i1
   ·rw [List.map_cons] at h ⊢
    rcases List.mem_cons.mp h with e | e
    ·exact List.mem_cons.mpr (.inl e)
    ·exact List.mem_cons_of_mem _ (i2 g e)
theorem Qdb (f:Str) (v:V):∀ fs:List (Str × V),(putF f v fs).length ≤ fs.length + 1
 | []=>by simp [putF]
 | (k,x) :: r=>by
  have ih:=Qdb f v r
  rw [show putF f v ((k,x) :: r) = (if k = f then (k,v) :: r else (k,x) :: putF f v r) from rfl]
  by_cases hk:k = f
  ·rw [if_pos hk,List.length_cons,List.length_cons];omega
  ·rw [if_neg hk,List.length_cons,List.length_cons];omega
theorem RelO.some_of {v:V} {o:Option Value} (r:RelO (some v) o):∃ u,o = some u∧RelV v u:=by
 cases o with
 | none=>exact (show False from r).elim
 | some u=>exact ⟨u,rfl,r⟩
theorem RelO.none_of {o:Option Value} (r:RelO none o):o = none:=by
 cases o with
 | none=>rfl
 | some u=>exact (show False from r).elim
theorem Qjo {v:V} {u:Value} (r:RelV v u):PySem.W.handedIn u = true:=by
 cases v with
 | non=>cases (show u = Value.none from r);rfl
 | bl b=>cases (show u = Value.bool b from r);rfl
 | int i=>obtain ⟨t,e⟩:=(show ∃ t,u = Value.int i t from r);cases e;rfl
 | str x=>obtain ⟨t,e⟩:=(show ∃ t,u = Value.str x t from r);cases e;rfl
 | byt b=>obtain ⟨t,e⟩:=(show ∃ t,u = Value.bytes b t from r);cases e;rfl
 | flt b=>obtain ⟨t,e⟩:=(show ∃ t,u = Value.float b t from r);cases e;rfl
 | ref a=>cases (show u = Value.ref a from r);rfl
 | ty n=>cases (show u = Value.type n from r);rfl
section
variable {P : Program} {w : World} {H H' : Hp} {h h' : Heap} {a C dx : Addr} {fs fs' : List (Str × V)}
theorem Qkr (hok:HOk P w H h) (e:H a = some (.ins C dx fs)):∃ mA,ObjM h a dx C mA∧(∀ f,RelO (fs.lookup f) (mA f))∧PySem.Within mA (fs.map (·.1))∧fs.length ≤ 1000∧H dx = some (.own a):=by
 obtain ⟨d,z,ne,ob,mA,n,r,q⟩:=(show Qcg P w H h a (.ins C dx fs) from hok a _ e)
 exact ⟨mA,⟨ob,n,ne⟩,r,q,z,d⟩
end
structure Cls (K:PySem.W.Frag) (C:Addr):Prop where
 pg:PySem.W.plainGet K C Str.empty = true
 hd:PySem.W.hasDictIn K C = true
 po:PySem.W.plainOver K C = true
 sa:PySem.W.findIn K (.ref C) "__setattr__" = some (some (.builtin "object.__setattr__"))
theorem Cls.get {K:PySem.W.Frag} {C:Addr} (c:Cls K C) (f:Str):PySem.W.plainGet K C f = true:=c.pg
def Qah (K:PySem.W.Frag) (C:Addr) (f:Str):Prop:=PySem.W.findIn K (.ref C) f = some none
theorem Qah.taker {K:PySem.W.Frag} {C:Addr} {f:Str} (n:Qah K C f):PySem.W.takerIn K C f = some none:=by
 unfold PySem.W.takerIn
 rw [show PySem.W.findIn K (.ref C) f = some none from n]
 rfl
structure Meth (K:PySem.W.Frag) (C:Addr) (m:Str) (f:Addr):Prop where
 at_:PySem.W.findIn K (.ref C) m = some (some (.ref f))
 fn:PySem.W.isFn K (.ref f) = true
 kp:PySem.W.keepIn K (.ref f) = true
section
variable {X : Cx} {pins : List (Addr × Obj)} {σ : St} {H : Hp} {s : Shared} {a C dx : Addr} {fs : List (Str × V)} {f : Str} {v : V} {A : Around} {E : Value → Shared → Prop}
theorem Qhi {b:Bool} {Q:Value→Shared→Prop} (I:Inv X pins σ H s) (e:H a = some (.ins C dx fs)) (c:Cls X.K C) (n:Qah X.K C f) (l:fs.lookup f = some v)
  (h:∀ u s',Inv X pins σ H s'→RelV v u→Q u s'):wpAny (model X.prog X.w) A (getAttr (.ref a) f b) Q E s:=by
 obtain ⟨mA,O,r,_,_,_⟩:=Qkr I.hok e
 obtain ⟨u,hu,ru⟩:=RelO.some_of (v:=v) (o:=mA f) (by rw [← l];exact r f)
 exact Quk I.kIn O (c.get f) c.hd n hu (Qjo ru) (h u _ (I.tok _) ru)
theorem Qf9 {m:Str} {g:Addr} {pl:Sem Bool} {Q:Value × List Value→Shared→Prop} (I:Inv X pins σ H s) (e:H a = some (.ins C dx fs)) (c:Cls X.K C) (k:Meth X.K C m g) (l:fs.lookup m = none)
  (h:Q (.ref g,[.ref a]) s):wpAny (model X.prog X.w) A (getMethod (.ref a) m pl) Q E s:=by
 obtain ⟨mA,O,r,_,_,_⟩:=Qkr I.hok e
 have hn:mA m = none:=RelO.none_of (by rw [← l];exact r m)
 exact Qry I.kIn O (c.get m) k.at_ k.fn hn h
theorem Qha {y:V} {u:Value} {Q:Unit→Shared→Prop} (I:Inv X pins σ H s) (e:H a = some (.ins C dx fs)) (c:Cls X.K C) (n:Qah X.K C f) (hl:fs.length < 1000) (ry:RelV y u)
  (h:∀ s',Inv X pins σ (upd H a (.ins C dx (putF f y fs))) s'→Q () s'):wpAny (model X.prog X.w) A (setAttr (.ref a) f u) Q E s:=by
 obtain ⟨mA,O,r,wi,_,ho⟩:=Qkr I.hok e
 have hz:(fs.map (·.1)).length ≤ sizeLine:=by rw [List.length_map,sizeLine_eq];omega
 refine Qtz I.kIn O c.sa c.po n.taker c.hd wi hz fun h' O' sb=>h _ ?_
 have hd:∃ o,h'.get? dx = some o:=let ⟨o,_,_,e',_⟩:=O'.ns; ⟨o,e'⟩
 refine I.write (x:=a) (e:=dx) (by rw [e];exact True.intro) (.inr ho) (fun b q hb z=>(sb.2 b hb).trans z) hd ?_
 refine ⟨by rw [Qa6 O.ne];exact ho,?_,O.ne,O'.obj,_,O'.ns,fun g=>?_,fun g hg=>?_⟩
 ·have:=Qdb f y fs;omega
 ·show RelO ((putF f y fs).lookup g) (if g = f then some u else mA g)
  rw [Qej]
  by_cases q:g = f
  ·rw [if_pos q,if_pos q];exact ry
  ·rw [if_neg q,if_neg q];exact r g
 ·by_cases q:g = f
  ·rw [q];exact (Qdv f y fs).1
  ·refine (Qdv f y fs).2 g (wi g fun z=>hg ?_)
   show (if g = f then some u else mA g) = none
   rw [if_neg q];exact z
theorem Inv.made (I:Inv X pins σ H s):Inv X pins σ (upd (upd H s.heap.objs.size (.own (s.heap.objs.size + 1))) (s.heap.objs.size + 1) (.ins C s.heap.objs.size []))
  { s with heap:=(s.heap.push PySem.W.emptyDict).push (PySem.W.instObj C s.heap.objs.size) }:=by
 have e1:(s.heap.push PySem.W.emptyDict).get? s.heap.objs.size = some PySem.W.emptyDict:=Heap.get?_push_size s.heap rfl
 have e2:((s.heap.push PySem.W.emptyDict).push (PySem.W.instObj C s.heap.objs.size)).get? (s.heap.objs.size + 1) = some (PySem.W.instObj C s.heap.objs.size):=by
  have:=Heap.get?_push_size (s.heap.push PySem.W.emptyDict) (o:=PySem.W.instObj C s.heap.objs.size) rfl
  rwa [Heap.size_push] at this
 have e3:(s.heap.push PySem.W.emptyDict).Ns s.heap.objs.size (fun _=>none):=⟨PySem.W.emptyDict,#[],_,e1,rfl,(fun e he=>absurd he (by simp)),fun _=>rfl⟩
 have I1:=I.laid (a:=s.heap.objs.size) (o:=.own (s.heap.objs.size + 1)) (h':=s.heap.push PySem.W.emptyDict) (t':=s.toks) (fun b u q=>Heap.get?_push_of_some _ q) (Nat.le_refl _) ⟨_,e1⟩
 refine I1.laid (a:=s.heap.objs.size + 1) (o:=.ins C s.heap.objs.size []) (t':=s.toks) (fun b u q=>Heap.get?_push_of_some _ q) (Nat.le_of_eq (Heap.size_push _ _)) ?_
 have ne:s.heap.objs.size ≠ s.heap.objs.size + 1:=Nat.ne_of_lt (Nat.lt_succ_self _)
 refine ⟨by rw [Qa6 ne,Qa3],Nat.zero_le _,ne,e2,fun _=>none,(Heap.Ns1.of_empty e3).at fun o q=>Heap.get?_push_of_some _ q,fun _=>True.intro,fun y hy=>absurd rfl hy⟩
theorem Qqi {prog:Program} {w:World} {env:Env} {e:Expr} {f:Str} {pos:Pos} {s:Shared} {Q:Value→Shared→Prop} (hb:attributeBase e f env (eval e env) = eval e env)
  (h:wpAny (model prog w) A (eval e env) (fun o s₁=>wpAny (model prog w) A (getAttr o f true) Q E s₁) E s):wpAny (model prog w) A (eval (.Attribute e f pos) env) Q E s :=
 Attribute_any_ h (by rw [arm_eval_Attribute,hb])
end
def tFld (K:PySem.W.Frag) (ta:TE) (f:Str):TE:=fun σ H Q=>ta σ H fun x H1=>∃ a C dx fs v,x = .ref a∧H1 a = some (.ins C dx fs)∧Cls K C∧Qah K C f∧fs.lookup f = some v∧Q v H1
def sFld (K:PySem.W.Frag) (ta tv:TE) (f:Str):TS:=fun D σ H=>tv σ H fun y H1=>ta σ H1 fun x H2=>∃ a C dx fs,x = .ref a∧H2 a = some (.ins C dx fs)∧Cls K C∧Qah K C f∧fs.length < 1000 ∧
 D.nx σ (upd H2 a (.ins C dx (putF f y fs)))
def InOp (X:Cx) (op:Operator) (rd:V→V→Hp→VK→Prop):Prop :=
 ∀ (pins:List (Addr × Obj)) (s:Shared) (σ : St) (H:Hp) (x y:V) (u v:Value) (Q:VK),Inv X pins σ H s→RelV x u→RelV y v→rd x y H Q→wpAny (model X.prog X.w) X.A (inplaceOp op u v) (EP X pins σ Q) X.xe s
def Qu1 (K:PySem.W.Frag) (ta tv:TE) (rd:V→V→Hp→VK→Prop) (f:Str):TS:=fun D σ H=>ta σ H fun x H1=>∃ a C dx fs v,x = .ref a∧H1 a = some (.ins C dx fs)∧Cls K C∧Qah K C f∧fs.lookup f = some v ∧
 tv σ H1 fun y H2=>rd v y H2 fun z H3=>∃ dx' fs',H3 a = some (.ins C dx' fs')∧fs'.length < 1000∧D.nx σ (upd H3 a (.ins C dx' (putF f z fs')))
section
variable {X : Cx} {o e value : Expr} {f : Str} {pos pos' tpos : Pos} {ta tv : TE}
theorem Qab (he:PE X e ta) (hb:attributeBase e f X.env (eval e X.env) = eval e X.env):PE X (.Attribute e f pos) (tFld X.K ta f):=by
 intro pins s σ H Q I h
 refine Qqi hb (thn (he pins s σ H _ I h) fun u s1 ⟨x,H1,I1,rx,a,C,dx,fs,v,ex,ea,c,n,l,q⟩=>?_)
 subst ex
 obtain rfl:u = Value.ref a:=rx
 exact Qhi I1 ea c n l fun u' s2 I2 ru=>⟨v,H1,I2,ru,q⟩
theorem Qbu (ha:PE X o ta) (hv:PE X value tv) (hs:swapsWith value (some (.Attribute o f pos')) pos.line X.env = pure false):PS X (.Assign [.Attribute o f pos'] value pos) (sFld X.K ta tv f):=by
 intro pins s σ H D I h
 refine plainObj_wpAny_Assign_Attribute (thn (hv pins s σ H _ I h) fun u s1 ⟨y,H1,I1,ry,q⟩=>thn (ha pins s1 σ H1 _ I1 q) fun ov s2 ⟨x,H2,I2,rx,a,C,dx,fs,ex,ea,c,n,l,q2⟩=>?_) hs
 subst ex
 obtain rfl:ov = Value.ref a:=rx
 exact Qha I2 ea c n l ry fun s3 I3=>⟨σ,_,I3,q2⟩
theorem Qot {op:Operator} {rd:V→V→Hp→VK→Prop} (ha:PE X o ta) (hv:PE X value tv) (hop:InOp X op rd):PS X (.AugAssign (.Attribute o f tpos) op value pos) (Qu1 X.K ta tv rd f):=by
 intro pins s σ H D I h
 refine wpAny_AugAssign_AttributeAny (thn (ha pins s σ H _ I h) fun ov s1 ⟨x,H1,I1,rx,a,C,dx,fs,v,ex,ea,c,n,l,q⟩=>?_)
 subst ex
 obtain rfl:ov = Value.ref a:=rx
 refine Qhi I1 ea c n l fun u s2 I2 ru=>thn (hv pins s2 σ H1 _ I2 q) fun w3 s3 ⟨y,H2,I3,ry,q3⟩=>thn (hop pins s3 σ H2 v y u w3 _ I3 ru ry q3) fun w4 s4 ⟨z,H3,I4,rz,dx',fs',ea',l',q4⟩=>?_
 exact Qha I4 ea' c n l' rz fun s5 I5=>⟨σ,_,I5,q4⟩
def rAdd:V→V→Hp→VK→Prop:=fun x y H Q=>∃ i j,x = .int i∧y = .int j∧Q (.int (i + j)) H
theorem Qy7:InOp X .Add rAdd:=by
 rintro pins s σ H x y u v Q I rx ry ⟨i,j,rfl,rfl,q⟩
 obtain ⟨t,rfl⟩:=(show ∃ t,u = Value.int i t from rx)
 obtain ⟨t',rfl⟩:=(show ∃ t',v = Value.int j t' from ry)
 exact PyProof.Rows.iadd_int ⟨.int (i + j),H,I.tok _,⟨_,rfl⟩,q⟩
theorem Qug {pl:Sem Bool} {m:Str} {apos:Pos} {args:List Expr} {pins:List (Addr × Obj)} {s:Shared} {σ : St} {H:Hp} {Q:Value→Shared→Prop} {te:TE} (he:PE X e te) (I:Inv X pins σ H s)
  (h:te σ H fun x H1=>∃ a C dx fs g,x = .ref a∧H1 a = some (.ins C dx fs)∧Cls X.K C∧Meth X.K C m g∧fs.lookup m = none ∧
   ∀ s1,Inv X pins σ H1 s1→wpAny (model X.prog X.w) X.A (callWith pos (.ref g) [.ref a] (backTo pos (starEach args X.env)) (backToKw pos (keywordEach [] X.env))) Q X.xe s1)
  (ht:eval (.Call (.Attribute e m apos) args [] pos) X.env = (do
   let ov ← eval e X.env
   standAt apos.atName
   let (f,first) ← holding [ov] (getMethod ov m pl)
   callWith pos f first (backTo pos (starEach args X.env)) (backToKw pos (keywordEach [] X.env)))) :
  wpAny (model X.prog X.w) X.A (eval (.Call (.Attribute e m apos) args [] pos) X.env) Q X.xe s:=by
 refine PySem.W.methodCall_KW (pl:=pl) (thn (he pins s σ H _ I h) fun u s1 ⟨x,H1,I1,rx,a,C,dx,fs,g,ex,ea,c,k,l,q⟩=>?_) ht
 subst ex
 obtain rfl:u = Value.ref a:=rx
 exact Qf9 I1 ea c k l (q s1 I1)
end
section
variable {X : Cx} {pins : List (Addr × Obj)} {σ : St} {H : Hp} {s : Shared} {A : Around} {E : Value → Shared → Prop} {Q : Value → Shared → Prop} {c : Value} {b : Bool}
end
end L2
namespace L2
open PySem PySem.Spec PyProof.Rows
structure Room (k:Nat) (A:Around):Prop where
 hd:A.handled = none
 dp:A.depth + 3 * k + 5 < recursionLimit
 un:A.units + 16 * k + 200 < cLine
theorem Room.mono {j k:Nat} {A:Around} (r:Room k A) (h:j ≤ k):Room j A:=⟨r.hd,by have:=r.dp;omega,by have:=r.un;omega⟩
theorem Room.deeper {k:Nat} {A:Around} (r:Room (k + 1) A) (env:Env):Room k (A.deeper env) :=
 ⟨r.hd,by have:=r.dp;show A.depth + 1 + 3 * k + 5 < _;omega,by have:=r.un;show A.units + 3 + 16 * k + 200 < _;omega⟩
theorem Qnm {A:Around} {C:Addr} {us:List Value} {kw:List (Str × Value)}:(A.under (.builtin "type.__call__" ⟨.ref C :: us,kw⟩)).depth = A.depth + 1:=by
 first | rfl | simp [Around.under,Code.weight,Code.isCreation,Code.isGuard,Code.isCaller,Code.frames,Code.isFrame,guardIds]
theorem Qnl {A:Around} {C:Addr} {us:List Value} {kw:List (Str × Value)}:(A.under (.builtin "type.__call__" ⟨.ref C :: us,kw⟩)).units = A.units + 1:=by
 first | rfl | simp [Around.under,Code.cUnits,Code.frames,Code.isFrame]
theorem Room.make {k:Nat} {A:Around} (r:Room (k + 1) A) (C:Addr) (us:List Value) (kw:List (Str × Value)):Room k (A.under (.builtin "type.__call__" ⟨.ref C :: us,kw⟩)) :=
 ⟨r.hd,by have:=r.dp;rw [Qnm];omega,by have:=r.un;rw [Qnl];omega⟩
theorem Room.depth {k:Nat} {A:Around} (r:Room k A):A.depth < recursionLimit:=by have:=r.dp;omega
theorem Room.units {k:Nat} {A:Around} (r:Room k A):A.units + 64 < cLine:=by have:=r.un;omega
def tNil:TA:=fun _ H Q=>Q [] H
def Qec (ta:TE) (tr:TA):TA:=fun σ H Q=>ta σ H fun x H1=>tr σ H1 fun xs H2=>Q (x :: xs) H2
section
variable {X : Cx} {e : Expr} {es : List Expr} {te : TE} {t : TA} {pos : Pos}
theorem Qa5:PA X [] tNil:=fun _ _ _ _ H Q I h=>Calls.spliced_nil ⟨[],H,I, .nil,h⟩
theorem Qa0 (ha:PE X e te) (hr:PA X es t) (hs:starEach (e :: es) X.env = (false,eval e X.env) :: starEach es X.env:=by rfl):PA X (e :: es) (Qec te t):=by
 intro pos pins s σ H Q I h
 rw [hs]
 show wpAny _ _ (spliced ((false,eval e X.env) :: backTo pos (starEach es X.env))) _ _ s
 refine Calls.spliced_cons (thn (ha pins s σ H _ I h) fun u s1 ⟨x,H1,I1,r1,q1⟩=>?_)
 exact thn (hr pos pins s1 σ H1 _ I1 q1) fun us s2 ⟨xs,H2,I2,r2,q2⟩=>⟨x :: xs,H2,I2, .cons r1 r2,q2⟩
def tTup (t:TA):TE:=fun σ H Q=>t σ H fun xs H1=>xs.length ≤ sizeLine∧∀ p,H1 p = none→Q (.ref p) (upd H1 p (.tup xs))
def tLst (t:TA):TE:=fun σ H Q=>t σ H fun xs H1=>xs.length ≤ sizeLine∧∀ p,H1 p = none→Q (.ref p) (upd H1 p (.lst xs))
theorem Qwx {x1} (h:PA X es t):PE X (.Tuple es x1 pos) (tTup t):=by
 intro pins s σ H Q I hq
 refine wpAny_Tuple_spliced (thn (h pos pins s σ H _ I hq) fun us s1 ⟨xs,H1,I1,r,z,q⟩=>⟨by rw [← r.length];exact z,?_⟩)
 have hf:H1 s1.heap.objs.size = none:=I1.hok.fresh (Nat.le_refl _)
 refine ⟨.ref s1.heap.objs.size,upd H1 s1.heap.objs.size (.tup xs),I1.laid (t':=s1.toks) (fun b u e=>Heap.get?_push_of_some _ e) (Nat.le_refl _) ?_,rfl,q _ hf⟩
 exact ⟨z,us,r,⟨_,Heap.get?_push_size _ rfl,rfl,_,rfl⟩⟩
theorem Qc0 (h:PA X es t):PE X (.List es pos) (tLst t):=by
 intro pins s σ H Q I hq
 refine wpAny_List_spliced (thn (h pos pins s σ H _ I hq) fun us s1 ⟨xs,H1,I1,r,z,q⟩=>⟨by rw [← r.length];exact z,?_⟩)
 have hf:H1 s1.heap.objs.size = none:=I1.hok.fresh (Nat.le_refl _)
 refine ⟨.ref s1.heap.objs.size,upd H1 s1.heap.objs.size (.lst xs),I1.laid (t':=s1.toks) (fun b u e=>Heap.get?_push_of_some _ e) (Nat.le_refl _) ?_,rfl,q _ hf⟩
 exact ⟨z,us,0,r,Heap.get?_push_size _ rfl⟩
end
abbrev Sp:=List V→Hp→VK→XK→Prop
abbrev CXT:=List Env→Hp→Shared→XK→Value→Shared→Prop
structure Env0 (P:Program) (w:World) (K:PySem.W.Frag) (mg:Str→Option Value) (base:Heap) (A:Around) (outer:List Env) (s:Shared) (H:Hp):Prop where
 frames:A.frames = some outer
 mod:Mod K mg base
 bs:∀ b o,base.get? b = some o→s.heap.get? b = some o∧H b = none
 bsz:base.objs.size ≤ s.heap.objs.size
 funs:s.heap.FunFrames base outer
 frf:∀ b ∈ frs outer,H b = none
 hok:HOk P w H s.heap
 bare:AllBare s.gens
def CE (outer:List Env) (P:Program) (w:World) (H:Hp) (s:Shared) (Q:VK) (u:Value) (s':Shared):Prop :=
 ∃ v H',s'.os = s.os∧AllBare s'.gens∧Un (frs outer) [] H H' s.heap s'.heap∧HOk P w H' s'.heap∧RelV v u∧Q v H'
def CR (CX:CXT) (outer:List Env) (P:Program) (w:World) (H:Hp) (s:Shared) (Q:VK) (E:XK) (r:Result) (s':Shared):Prop :=
 match r with
 | .ok (.ret u)=>CE outer P w H s Q u s'
 | .ok _=>False
 | .error e=>CX outer H s E e s'
structure FnOk (P:Program) (w:World) (K:PySem.W.Frag) (mg:Str→Option Value) (base:Heap) (CX:CXT) (k:Nat) (f:Addr) (fd:FuncData) (ps:List Str) (sp:Sp):Prop where
 len:∀ vs H Q E,sp vs H Q E→vs.length = ps.length
 run:∀ (A:Around) (outer:List Env) (s:Shared) (H:Hp) (args:Args) (us:List Value) (vs:List V) (Q:VK) (E:XK),Room k A→Env0 P w K mg base A outer s H→BindsTo s fd args (ps.zip us)→Vals vs us→sp vs H Q E →
  codeAny (model P w) A (.call (.ref f) args) (CR CX outer P w H s Q E) s
theorem FnOk.mono {P:Program} {w:World} {K:PySem.W.Frag} {mg:Str→Option Value} {base:Heap} {CX:CXT} {j k:Nat} {f:Addr} {fd:FuncData} {ps:List Str} {sp:Sp} (F:FnOk P w K mg base CX j f fd ps sp) (h:j ≤ k) :
  FnOk P w K mg base CX k f fd ps sp:=⟨F.len,fun A outer s H args us vs Q E hr=>F.run A outer s H args us vs Q E (hr.mono h)⟩
theorem Env0.make {P:Program} {w:World} {K:PySem.W.Frag} {mg:Str→Option Value} {base:Heap} {A:Around} {outer:List Env} {s:Shared} {H:Hp} (e:Env0 P w K mg base A outer s H) (C:Addr) (us:List Value) (kw:List (Str × Value)) :
  Env0 P w K mg base (A.under (.builtin "type.__call__" ⟨.ref C :: us,kw⟩)) outer s H:=⟨by first | exact e.frames | (simpa [Around.under,Code.envs,Code.isFrame,pushEnvs] using e.frames),e.mod,e.bs,e.bsz,e.funs,e.frf,e.hok,e.bare⟩
section
variable {X : Cx} {pins : List (Addr × Obj)} {σ : St} {H : Hp} {s s' : Shared}
theorem Inv.env0 (I:Inv X pins σ H s):Env0 X.prog X.w X.K X.mg X.base X.A X.stack s H :=
 ⟨I.ok.frames,I.ok.mod,I.bs,Nat.le_trans I.ok.bsz I.sz,I.stack,I.stkFree,I.hok,I.bare⟩
theorem Inv.after {Q:VK} {u:Value} (I:Inv X pins σ H s) (h:CE X.stack X.prog X.w H s Q u s'):EP X pins σ Q u s':=by
 obtain ⟨v,H',os,bare,un,hok,r,q⟩:=h
 obtain ⟨hh,g,d,t,os'⟩:=s'
 obtain rfl:os' = s.os:=os
 exact ⟨v,H',I.call (h':=hh) (g':=g) (d':=d) (t':=t) (ch:=[]) un hok bare (fun b z=>absurd z (by simp)),r,q⟩
end
def Qqw (sp:Sp) (dvs:List V) (E:XK) (t:TA):TE:=fun σ H Q=>t σ H fun vs H1=>sp (vs ++ dvs) H1 Q E
def Qm5 (C:Addr) (m:Str) (sp:Sp) (dvs:List V) (E:XK) (ta:TE) (t:TA):TE:=fun σ H Q=>ta σ H fun x H1=>∃ a dx fs,x = .ref a∧H1 a = some (.ins C dx fs)∧fs.lookup m = none ∧
 t σ H1 fun vs H2=>sp (x :: (vs ++ dvs)) H2 Q E
def Qv1 (C:Addr) (sp:Sp) (dvs:List V) (E:XK) (t:TA):TE:=fun σ H Q=>t σ H fun vs H1=>∀ x dx,H1 x = none→H1 dx = none→dx ≠ x →
 sp (.ref x :: (vs ++ dvs)) (upd (upd H1 dx (.own x)) x (.ins C dx [])) (fun v H2=>v = .non∧Q (.ref x) H2) E
def Qal (K:PySem.W.Frag) (fd:FuncData) (ps:List Str) (ds:List Value):Prop :=
 ∀ (s:Shared) (us:List Value),K.In s.heap→(us ++ ds).length = ps.length→BindsTo s fd ⟨us,[]⟩ (ps.zip (us ++ ds))
theorem Qal.all {K:PySem.W.Frag} {fd:FuncData} {ps:List Str} (h:∀ us:List Value,us.length = ps.length→bindArgs fd ⟨us,[]⟩ = pure (ps.zip us)):Qal K fd ps []:=fun s us _ hl=>by
 rw [List.append_nil] at hl ⊢
 exact .of_eq (h us hl)
def Qcr (CX:CXT) (X:Cx) (E:XK):Prop:=∀ (pins:List (Addr × Obj)) (σ : St) (H:Hp) (s:Shared) (e:Value) (s':Shared),Inv X pins σ H s→CX X.stack H s E e s'→X.xe e s'
section
variable {X : Cx} {CX : CXT} {k : Nat} {f C : Addr} {fd : FuncData} {ps : List Str} {sp : Sp} {dvs : List V} {ds : List Value} {E : XK} {x m : Str} {p pos apos : Pos} {e o : Expr} {es : List Expr} {ta : TE} {t : TA}
theorem Qiv {pins:List (Addr × Obj)} {σ : St} {H:Hp} {s:Shared} {Q:VK} {us:List Value} {vs:List V} (F:FnOk X.prog X.w X.K X.mg X.base CX k f fd ps sp) (hr:Room k X.A) (hb:Qal X.K fd ps ds) (hd:Vals dvs ds) (hx:Qcr CX X E)
  (I:Inv X pins σ H s) (r:Vals vs us) (h:sp (vs ++ dvs) H Q E):wpAny (model X.prog X.w) X.A (call (.ref f) us) (EP X pins σ Q) X.xe s:=by
 have r2:Vals (vs ++ dvs) (us ++ ds):=r.append hd
 have hl:(us ++ ds).length = ps.length:=by rw [← r2.length];exact F.len _ _ _ _ h
 refine wpAny_call (codeAny_mono (F.run X.A X.stack s H ⟨us,[]⟩ (us ++ ds) (vs ++ dvs) Q E hr I.env0 (hb s us I.kIn hl) r2 h) fun r s' hq=>?_)
 cases r with
 | error e=>exact hx pins σ H s e s' I hq
 | ok fl =>
  cases fl with
  | ret u=>exact I.after hq
  | next=>exact False.elim hq
  | brk=>exact False.elim hq
  | cont=>exact False.elim hq
theorem Qag (F:FnOk X.prog X.w X.K X.mg X.base CX k f fd ps sp) (hr:Room k X.A) (hg:Gl X x) (hm:X.mg x = some (.ref f)) (hk:PySem.W.keepIn X.K (.ref f) = true) (hb:Qal X.K fd ps ds) (hd:Vals dvs ds) (hx:Qcr CX X E)
  (ha:PA X (e :: es) t) (hdb:(x == ("__debug__" : Str)) = false:=by decide) (he:starEach (e :: es) X.env = (false,eval e X.env) :: starEach es X.env:=by rfl) (hpl:(backTo pos (starEach es X.env)).any (·.1) = false:=by rfl) :
  PE X (.Call (.Name x p) (e :: es) [] pos) (Qqw sp dvs E t):=by
 intro pins s σ H Q I h
 refine wpAny_Call_Name_kw (Qdt I hg hm ?_ hdb)
 refine PySem.W.callWith_K (h₀:=X.base) I.ok.mod.kin hk (thn (ha pos pins s σ H _ I h) fun us s1 ⟨vs,H1,I1,r,q⟩=>⟨I1.kIn,?_⟩) he hpl
 exact Qiv F hr hb hd hx I1 r q
theorem Qb8 {pl:Sem Bool} (he:PE X o ta) (c:Cls X.K C) (hm:Meth X.K C m f) (F:FnOk X.prog X.w X.K X.mg X.base CX k f fd ps sp) (hr:Room k X.A) (hb:Qal X.K fd ps ds) (hd:Vals dvs ds) (hx:Qcr CX X E) (ha:PA X (e :: es) t)
  (hst:starEach (e :: es) X.env = (false,eval e X.env) :: starEach es X.env:=by rfl) (hpl:(backTo pos (starEach es X.env)).any (·.1) = false:=by rfl)
  (ht:eval (.Call (.Attribute o m apos) (e :: es) [] pos) X.env = (do
   let ov ← eval o X.env
   standAt apos.atName
   let (f,first) ← holding [ov] (getMethod ov m pl)
   callWith pos f first (backTo pos (starEach (e :: es) X.env)) (backToKw pos (keywordEach [] X.env))):=by rfl) :
  PE X (.Call (.Attribute o m apos) (e :: es) [] pos) (Qm5 C m sp dvs E ta t):=by
 intro pins s σ H Q I h
 refine PySem.W.methodCall_KW (pl:=pl) (thn (he pins s σ H _ I h) fun u s1 ⟨x,H1,I1,rx,a,dx,fs,ex,ea,l,q⟩=>?_) ht
 subst ex
 obtain rfl:u = Value.ref a:=rx
 refine Qf9 I1 ea c hm l ?_
 refine PySem.W.callWith_K (first:=[.ref a]) (h₀:=X.base) I.ok.mod.kin hm.kp (thn (ha pos pins s1 σ H1 _ I1 q) fun us s2 ⟨vs,H2,I2,r,q2⟩=>⟨I2.kIn,?_⟩) hst hpl
 exact Qiv (us:=.ref a :: us) (vs:=.ref a :: vs) F hr hb hd hx I2 (.cons rfl r) q2
theorem Qay {pl:Sem Bool} (he:PE X o ta) (c:Cls X.K C) (hm:Meth X.K C m f) (F:FnOk X.prog X.w X.K X.mg X.base CX k f fd ps sp) (hr:Room k X.A) (hb:Qal X.K fd ps ds) (hd:Vals dvs ds) (hx:Qcr CX X E)
  (ht:eval (.Call (.Attribute o m apos) [] [] pos) X.env = (do
   let ov ← eval o X.env
   standAt apos.atName
   let (f,first) ← holding [ov] (getMethod ov m pl)
   callWith pos f first (backTo pos (starEach [] X.env)) (backToKw pos (keywordEach [] X.env))):=by rfl) :
  PE X (.Call (.Attribute o m apos) [] [] pos) (Qm5 C m sp dvs E ta tNil):=by
 intro pins s σ H Q I h
 refine PySem.W.methodCall_KW (pl:=pl) (thn (he pins s σ H _ I h) fun u s1 ⟨x,H1,I1,rx,a,dx,fs,ex,ea,l,q⟩=>?_) ht
 subst ex
 obtain rfl:u = Value.ref a:=rx
 refine Qf9 I1 ea c hm l ?_
 exact PySem.W.callWith_K0 (first:=[.ref a]) I1.kIn hm.kp (Qiv (us:=[.ref a]) (vs:=[.ref a]) F hr hb hd hx I1 (.cons rfl .nil) q)
structure Mk (K:PySem.W.Frag) (C f:Addr):Prop where
 makes:PySem.W.makesIn K C = true
 init:PySem.W.findIn K (.ref C) "__init__" = some (some (.ref f))
 fn:PySem.W.isFn K (.ref f) = true
 kp:PySem.W.keepIn K (.ref C) = true
theorem Qla {pins:List (Addr × Obj)} {σ : St} {H:Hp} {s:Shared} {Q:VK} {us:List Value} {vs:List V} (M:Mk X.K C f) (F:FnOk X.prog X.w X.K X.mg X.base CX k f fd ps sp) (hr:Room (k + 1) X.A) (hb:Qal X.K fd ps ds) (hd:Vals dvs ds)
  (hx:Qcr CX X E) (I:Inv X pins σ H s) (r:Vals vs us)
  (h:∀ x dx,H x = none→H dx = none→dx ≠ x→sp (.ref x :: (vs ++ dvs)) (upd (upd H dx (.own x)) x (.ins C dx [])) (fun v H2=>v = .non∧Q (.ref x) H2) E) :
  wpAny (model X.prog X.w) X.A (call (.ref C) us) (EP X pins σ Q) X.xe s:=by
 have hq:=h (s.heap.objs.size + 1) s.heap.objs.size (I.hok.fresh (Nat.le_succ _)) (I.hok.fresh (Nat.le_refl _)) (Nat.ne_of_lt (Nat.lt_succ_self _))
 have I2:=Inv.made (C:=C) I
 have r2:Vals (V.ref (s.heap.objs.size + 1) :: (vs ++ dvs)) (Value.ref (s.heap.objs.size + 1) :: (us ++ ds)):=.cons rfl (r.append hd)
 have hl:(Value.ref (s.heap.objs.size + 1) :: us ++ ds).length = ps.length:=by
  have e:=r2.length
  rw [F.len _ _ _ _ hq] at e
  exact e.symm
 refine wpAny_call (Qrq (f:=f) I.kIn M.makes M.init (beq_iff_eq.mp M.fn) (codeAny_mono (F.run _ X.stack _ _ ⟨Value.ref (s.heap.objs.size + 1) :: us,[]⟩ (Value.ref (s.heap.objs.size + 1) :: (us ++ ds)) _ _ E (hr.make C us [])
  (I2.env0.make C us []) (hb _ (Value.ref (s.heap.objs.size + 1) :: us) I2.kIn hl) r2 hq) fun r s' hq'=>?_))
 cases r with
 | error e=>exact hx pins σ _ _ e s' I2 hq'
 | ok fl =>
  cases fl with
  | ret u =>
   obtain ⟨v,H',I3,rv,ev,q3⟩:=I2.after hq'
   subst ev
   exact ⟨rv,⟨V.ref (s.heap.objs.size + 1),H',I3,rfl,q3⟩⟩
  | next=>exact False.elim hq'
  | brk=>exact False.elim hq'
  | cont=>exact False.elim hq'
theorem Qca (M:Mk X.K C f) (F:FnOk X.prog X.w X.K X.mg X.base CX k f fd ps sp) (hr:Room (k + 1) X.A) (hg:Gl X x) (hm:X.mg x = some (.ref C)) (hb:Qal X.K fd ps ds) (hd:Vals dvs ds) (hx:Qcr CX X E)
  (ha:PA X (e :: es) t) (hdb:(x == ("__debug__" : Str)) = false:=by decide) (he:starEach (e :: es) X.env = (false,eval e X.env) :: starEach es X.env:=by rfl) (hpl:(backTo pos (starEach es X.env)).any (·.1) = false:=by rfl) :
  PE X (.Call (.Name x p) (e :: es) [] pos) (Qv1 C sp dvs E t):=by
 intro pins s σ H Q I h
 refine wpAny_Call_Name_kw (Qdt I hg hm ?_ hdb)
 refine PySem.W.callWith_K (h₀:=X.base) I.ok.mod.kin M.kp (thn (ha pos pins s σ H _ I h) fun us s1 ⟨vs,H1,I1,r,q⟩=>⟨I1.kIn,?_⟩) he hpl
 exact Qla M F hr hb hd hx I1 r q
theorem Qra (M:Mk X.K C f) (F:FnOk X.prog X.w X.K X.mg X.base CX k f fd ps sp) (hr:Room (k + 1) X.A) (hg:Gl X x) (hm:X.mg x = some (.ref C)) (hb:Qal X.K fd ps ds) (hd:Vals dvs ds) (hx:Qcr CX X E)
  (hdb:(x == ("__debug__" : Str)) = false:=by decide):PE X (.Call (.Name x p) [] [] pos) (Qv1 C sp dvs E tNil):=by
 intro pins s σ H Q I h
 refine wpAny_Call_Name_kw (Qdt I hg hm ?_ hdb)
 exact PySem.W.callWith_K0 I.kIn M.kp (Qla (us:=[]) M F hr hb hd hx I .nil h)
end
def PK (X:Cx) (kws:List Keyword) (t:TA):Prop :=
 ∀ (pos:Pos) (pins:List (Addr × Obj)) (s:Shared) (σ : St) (H:Hp) (Q:List V→Hp→Prop),Inv X pins σ H s→t σ H Q→wpAny (model X.prog X.w) X.A (evalAll ((backToKw pos (keywordEach kws X.env)).map (·.2))) (AP X pins σ Q) X.xe s
section
variable {X : Cx} {CX : CXT} {k : Nat} {f C : Addr} {fd : FuncData} {ps ks : List Str} {sp : Sp} {E : XK} {x m : Str} {p pos apos kpos : Pos} {e o : Expr} {es : List Expr} {kws : List Keyword} {te ta : TE} {t tk : TA} {nm : Option Str}
theorem Qwv:PK X [] tNil:=fun _ _ _ _ H Q I h=>wpAny_evalAll_nil ⟨[],H,I, .nil,h⟩
theorem Qu4 (ha:PE X e te) (hr:PK X kws t):PK X (⟨nm,e,kpos⟩ :: kws) (Qec te t):=by
 intro pos pins s σ H Q I h
 show wpAny _ _ (evalAll ((do let v ← eval e X.env;standAt pos;pure v) :: (backToKw pos (keywordEach kws X.env)).map (·.2))) _ _ s
 refine wpAny_evalAll_cons (wpAny_bind (thn (ha pins s σ H _ I h) fun u s1 ⟨x,H1,I1,r1,q1⟩=>wpAny_bind (wpAny_standAt (wpAny_pure ?_))))
 exact thn (hr pos pins s1 σ H1 _ I1 q1) fun us s2 ⟨xs,H2,I2,r2,q2⟩=>⟨x :: xs,H2,I2, .cons r1 r2,q2⟩
variable {g : List Value → List Value → List Value} {gV : List V → List V → List V}
end
structure Qaa (N P:List Str) (sc:Scope):Prop where
 kind:sc.kind = .function
 co:sc.isCoroutine = false
 gen:sc.isGenerator = false
 nd:N.Nodup
 pre:N.take P.length = P
 par:∀ x ∈ P,sc.names.lookup x = some .local ∨ sc.names.lookup x = some .cell
 nofree:∀ y ∈ sc.names,y.2 ≠ .free
theorem Qjy {kindOf:Str→Option NameKind} {x:Str}:∀ {binds:List (Str × Value)} {m:Str→Option Value},(∀ v,(x,v) ∉ binds)→bindL kindOf binds m x = m x
 | [],_,_=>rfl
 | (n,v) :: r,m,h=>by
  unfold bindL
  rw [Qjy fun w hw=>h w (List.mem_cons_of_mem _ hw)]
  split
  ·have:x ≠ n:=by rintro rfl;exact h v List.mem_cons_self
   simp [this]
  ·rfl
theorem Qk0 {kindOf:Str→Option NameKind} {x:Str}:∀ {binds:List (Str × Value)} {m:Str→Option Value},(∀ v,(x,v) ∉ binds)→bindC kindOf binds m x = m x
 | [],_,_=>rfl
 | (n,v) :: r,m,h=>by
  unfold bindC
  rw [Qk0 fun w hw=>h w (List.mem_cons_of_mem _ hw)]
  split
  ·rfl
  ·have:x ≠ n:=by rintro rfl;exact h v List.mem_cons_self
   simp [this]
theorem Qjz {kindOf:Str→Option NameKind} {x:Str} {v:Value}:∀ {P:List Str} {vs:List Value} {i:Nat} {m:Str→Option Value},P.Nodup→P[i]? = some x→vs[i]? = some v→kindOf x = some .local →
  bindL kindOf (P.zip vs) m x = some v
 | [],_,_,_,_,h,_,_=>by simp at h
 | _ :: _,[],_,_,_,_,h,_=>by simp at h
 | p :: P,w :: vs,0,m,nd,h1,h2,hk=>by
  simp at h1 h2;subst h1;subst h2
  show bindL kindOf ((p,w) :: P.zip vs) m p = _
  unfold bindL
  rw [Qjy fun v hv=>(List.nodup_cons.mp nd).1 (List.of_mem_zip hv).1,if_pos hk]
  simp
 | p :: P,w :: vs,i + 1,m,nd,h1,h2,hk=>by
  show bindL kindOf ((p,w) :: P.zip vs) m x = _
  unfold bindL
  exact Qjz (i:=i) (List.nodup_cons.mp nd).2 (by simpa using h1) (by simpa using h2) hk
theorem Qk1 {kindOf:Str→Option NameKind} {x:Str} {v:Value}:∀ {P:List Str} {vs:List Value} {i:Nat} {m:Str→Option Value},P.Nodup→P[i]? = some x→vs[i]? = some v→kindOf x ≠ some .local →
  bindC kindOf (P.zip vs) m x = some v
 | [],_,_,_,_,h,_,_=>by simp at h
 | _ :: _,[],_,_,_,_,h,_=>by simp at h
 | p :: P,w :: vs,0,m,nd,h1,h2,hk=>by
  simp at h1 h2;subst h1;subst h2
  show bindC kindOf ((p,w) :: P.zip vs) m p = _
  unfold bindC
  rw [Qk0 fun v hv=>(List.nodup_cons.mp nd).1 (List.of_mem_zip hv).1,if_neg hk]
  simp
 | p :: P,w :: vs,i + 1,m,nd,h1,h2,hk=>by
  show bindC kindOf ((p,w) :: P.zip vs) m x = _
  unfold bindC
  exact Qk1 (i:=i) (List.nodup_cons.mp nd).2 (by simpa using h1) (by simpa using h2) hk
def start (N:List Str) (vs:List V):St:=vs.map some ++ List.replicate (N.length - vs.length) none
def cxOf (CX:CXT) (P:Program) (w:World) (K:PySem.W.Frag) (mg:Str→Option Value) (base:Heap) (N:List Str) (qual:Str) (scope:Scope) (f:Addr) (cd:Value) (A:Around) (outer:List Env) (s:Shared) (H:Hp) (E:XK):Cx where
 prog:=P
 w:=w
 K:=K
 mg:=mg
 base:=base
 A:=A.deeper (envOfC qual scope s.heap.objs.size f cd)
 N:=N
 s_0:=s
 H_0:=H
 env:=envOfC qual scope s.heap.objs.size f cd
 outer:=outer
 stack:=envOfC qual scope s.heap.objs.size f cd :: outer
 ex:=[]
 calm:=true
 fn:=fun _=>true
 pn:=[]
 xe:=fun e s'=>wpAny (model P w) (A.deeper (envOfC qual scope s.heap.objs.size f cd)) (leaving (envOfC qual scope s.heap.objs.size f cd) e) (fun _ s''=>CX outer H s E e s'') (fun e' s''=>CX outer H s E e' s'') s'
theorem Qly {sc:Scope} {n:Nat} {x:Str} (h:sc.names.lookup x = some .cell):∃ c,(cellsFrom n sc.names []).lookup x = some c:=by
 have q:=PySem.W.cellsFrom_some sc.names n [] (.inl h)
 exact Option.isSome_iff_exists.mp q
theorem Qpr {CX:CXT} {P:Program} {w:World} {K:PySem.W.Frag} {mg:Str→Option Value} {base:Heap} {N ps:List Str} {qual:Str} {scope:Scope} {f:Addr} {cd:Value} {A:Around} {outer:List Env} {s s1:Shared} {H:Hp} {E:XK} {us:List Value} {vs:List V}
  (S:Qaa N ps scope) (hd:A.handled = none) (e0:Env0 P w K mg base A outer s H) (hl:vs.length = ps.length) (r:Vals vs us)
  (x:InCallC s s.heap.objs.size (bindL (envOfC qual scope s.heap.objs.size f cd).kindOf (ps.zip us) fun _=>none) (cellsFrom (s.heap.objs.size + 1) scope.names []) (bindC (envOfC qual scope s.heap.objs.size f cd).kindOf (ps.zip us) fun _=>none) s1) :
  Inv (cxOf CX P w K mg base N qual scope f cd A outer s H E) [] (start N vs) H s1:=by
 have hpl:ps.length ≤ N.length:=by have:=congrArg List.length S.pre;rw [List.length_take] at this;omega
 obtain ⟨h1,tk,rfl,hk⟩:=x.done
 have noA:∀ b:Addr,b ∉ (cxOf CX P w K mg base N qual scope f cd A outer s H E).ex:=fun b z=>absurd (show b ∈ ([]:List Addr) from z) (by simp)
 refine ⟨⟨e0.mod,S.kind,rfl,rfl,Nat.le_refl _,fun y z c h1 h2=>?_,fun y hy=>?_,fun y c _ h=>?_,fun _=>hd,Around.frames_deeper e0.frames, .inr ⟨rfl,rfl⟩,fun b z=>absurd z (noA b),e0.bs,e0.bsz,fun b _ _=>noA b,fun b z=>absurd z (noA b),e0.funs,e0.frf⟩,
  rfl,e0.bare,Un.kept hk,⟨_,x.toInCall.ns,fun i y v h1 h2 h3=>?_⟩,fun y c h=>⟨_,x.cell y c h⟩,e0.hok.fresh (Nat.le_refl _),fun y c h=>?_,fun p hp=>absurd (show p ∈ ([]:List (Addr × Obj)) from hp) (by simp),e0.hok.kept hk,?_⟩
 ·exact name_of_addr x.apart (PySem.mem_of_lookup h1) (PySem.mem_of_lookup h2)
 ·have hy:scope.names.lookup y = some .cell ∨ scope.names.lookup y = some .free:=hy
  rcases hy with hy | hy
  ·exact Qly hy
  ·exact absurd rfl (S.nofree _ (PySem.mem_of_lookup hy))
 ·exact Nat.le_of_lt (x.above y c (PySem.mem_of_lookup h))
 ·have hi:i < vs.length:=by
   unfold start at h2
   by_cases hi:i < vs.length
   ·exact hi
   ·rw [List.getElem?_append_right (by simpa using hi)] at h2
    rw [List.getElem?_replicate] at h2
    split at h2 <;> cases h2
  have ha:vs[i]? = some v:=by
   unfold start at h2
   rw [List.getElem?_append_left (by simpa using hi),List.getElem?_map] at h2
   cases e:vs[i]? with
   | none=>rw [e] at h2;cases h2
   | some a=>rw [e] at h2;cases h2;rfl
  obtain ⟨u,hu,rv⟩:=r.get ha
  have hp:ps[i]? = some y:=by
   rw [← S.pre,List.getElem?_take_of_lt (by omega)];exact h1
  have ndP:ps.Nodup:=by rw [← S.pre];exact S.nd.sublist (List.take_sublist _ _)
  refine ⟨u,rv,?_⟩
  rcases S.par y (List.mem_of_getElem? hp) with k | k
  ·exact .inl ⟨k,Qjz ndP hp hu k⟩
  ·obtain ⟨c,e⟩:=Qly (n:=s.heap.objs.size + 1) k
   refine .inr ⟨.inl k,c,e,?_⟩
   have q:=x.cell y c e
   rw [Qk1 ndP hp hu (by show scope.names.lookup y ≠ _;rw [k];decide)] at q
   exact q
 ·exact e0.hok.fresh (Nat.le_of_lt (x.above y c (PySem.mem_of_lookup h)))
 ·unfold start
  show _ = N.length
  rw [List.length_append,List.length_map,List.length_replicate]
  omega
theorem Qy9 {CX:CXT} {P:Program} {w:World} {K:PySem.W.Frag} {mg:Str→Option Value} {base:Heap} {k:Nat} {f:Addr} {name qual:Str} {params:Arguments} {body:List Stmt} {scope:Scope} {dV kV doc pm cdv ct oc:Value} {an od:Option Addr}
  {osl:Array (Option Value)} {N ps:List Str} {sp:Sp} (lk:K.lookup f = some ⟨oc,od, .func (PySem.W.fnOf name qual params body scope dV kV doc pm an cdv ct),osl⟩) (hcd:PySem.W.codeIn K cdv qual = true) (S:Qaa N ps scope)
  (len:∀ vs H Q E,sp vs H Q E→vs.length = ps.length)
  (hbody:∀ (A:Around) (outer:List Env) (s:Shared) (H:Hp) (vs:List V) (Q:VK) (E:XK),Room k (A.deeper (envOfC qual scope s.heap.objs.size f cdv))→sp vs H Q E →
   ∃ t,PSs (cxOf CX P w K mg base N qual scope f cdv A outer s H E) body t∧t { nx:=fun _ H'=>Q .non H',rt:=Q } (start N vs) H) :
  FnOk P w K mg base CX (k + 1) f (PySem.W.fnOf name qual params body scope dV kV doc pm an cdv ct) ps sp:=by
 refine ⟨len,fun A outer s H args us vs Q E hr e0 hb r hsp=>?_⟩
 have hl:=len _ _ _ _ hsp
 have KX:K.In s.heap:=e0.mod.kin.keeps fun b o e=>(e0.bs b o e).1
 have lim:s.heap.NoLimit:=e0.mod.nolimit.keeps fun b o e=>(e0.bs b o e).1
 have hkind:∀ y ∈ ps.zip us,scope.names.lookup y.1 = some .local ∨ (scope.names.lookup y.1 = some .cell∧((cellsFrom (s.heap.objs.size + 1) scope.names []).lookup y.1).isSome = true):=fun ⟨n,v⟩ hy=>by
  rcases S.par n (List.of_mem_zip hy).1 with q | q
  ·exact .inl q
  ·exact .inr ⟨q,PySem.W.cellsFrom_some _ _ _ (.inl q)⟩
 refine codeAny_call_function hr.depth (KX _ _ lk) rfl S.co S.gen rfl (PySem.W.codeRec_of KX hcd) (hb _ _ _ _ ?_)
 refine wpAny_newFunctionEnv_cells S.kind hkind fun env he s1 x=>?_
 subst he
 refine ⟨lim.keeps x.toInCall.keep,codeAny_func ?_⟩
 obtain ⟨t,ht,hq⟩:=hbody A outer s H vs Q E (hr.deeper _) hsp
 have I:Inv (cxOf CX P w K mg base N qual scope f cdv A outer s H E) [] (start N vs) H s1:=Qpr S hr.hd e0 hl r x
 refine wpAny_mono (ht [] s1 (start N vs) H _ I hq) (fun fl s' hs=>?_) fun e s' hs=>hs
 have fin:∀ {σ':St} {H':Hp} {v:V} {u:Value},Inv (cxOf CX P w K mg base N qual scope f cdv A outer s H E) [] σ' H' s'→RelV v u→Q v H'→CE outer P w H s Q u s' :=
  fun {σ' H' v u} J rv q=>⟨v,H',J.os,J.bare,J.base,J.hok,rv,q⟩
 cases fl with
 | ret u =>
  obtain ⟨v,σ',H',J,rv,q⟩:=hs
  exact fin J rv q
 | next =>
  obtain ⟨σ',H',J,q⟩:=hs
  exact fin (v:=V.non) (u:=Value.none) J rfl q
 | brk =>
  obtain ⟨_,_,_,q⟩:=hs
  exact False.elim q
 | cont =>
  obtain ⟨_,_,_,q⟩:=hs
  exact False.elim q
end L2
namespace L2
open PySem PySem.Spec PyProof.Rows
section
variable {X : Cx} {x : Str} {p pos : Pos} {e : Expr} {es : List Expr} {t : TA} {id T : String} {r : List V → Hp → VK → Prop}
def tCB (r:List V→Hp→VK→Prop) (t:TA):TE:=fun σ H Q=>t σ H fun vs H1=>r vs H1 Q
theorem Qbf (hc:Qh6 X (.builtin id) r) (hg:Gl X x) (hm:X.mg x = none) (hv:bootBuiltins x = some (.builtin id)) (ha:PA X (e :: es) t) (hn:x ≠ "__name__" := by decide) (hdb:(x == ("__debug__" : Str)) = false:=by decide)
  (he:starEach (e :: es) X.env = (false,eval e X.env) :: starEach es X.env:=by rfl) (hpl:(backTo pos (starEach es X.env)).any (·.1) = false:=by rfl):PE X (.Call (.Name x p) (e :: es) [] pos) (tCB r t):=by
 intro pins s σ H Q I h
 refine wpAny_Call_Name_kw (Qje I hg hm hv ?_ hn hdb)
 exact PyProof.Rows.callWith_builtin1 (thn (ha pos pins s σ H _ I h) fun us s1 ⟨vs,H1,I1,r1,q1⟩=>hc pins s1 σ H1 vs us Q I1 r1 q1) he hpl
theorem Qcz (hc:Qh6 X (.type T) r) (hg:Gl X x) (hm:X.mg x = none) (hv:bootBuiltins x = some (.type T)) (ha:PA X (e :: es) t) (hn:x ≠ "__name__" := by decide) (hdb:(x == ("__debug__" : Str)) = false:=by decide)
  (he:starEach (e :: es) X.env = (false,eval e X.env) :: starEach es X.env:=by rfl) (hpl:(backTo pos (starEach es X.env)).any (·.1) = false:=by rfl):PE X (.Call (.Name x p) (e :: es) [] pos) (tCB r t):=by
 intro pins s σ H Q I h
 refine wpAny_Call_Name_kw (Qje I hg hm hv ?_ hn hdb)
 exact PyProof.Rows.callWith_type1 (thn (ha pos pins s σ H _ I h) fun us s1 ⟨vs,H1,I1,r1,q1⟩=>hc pins s1 σ H1 vs us Q I1 r1 q1) he hpl
end
end L2
namespace HT
open PySem PyProof.Rows
section
open PySem.SeqAt
open PySem.AutoSeq1 (wpAny_loadPart')
open PySem.MeetsSeq PySem.MeetsSeq2 PySem.MeetsSeq3
end
section
variable {prog : Program} {w : World} {A : Around} {E : Value → Shared → Prop} {s : Shared}
def sIx (n d:Nat):Option Int→Nat
 | none=>d
 | some v=>if v < 0 then (v + (n:Int)).toNat else min v.toNat n
theorem sIx_none (n d:Nat):sIx n d none = d:=rfl
theorem sIx_nat (n d k:Nat):sIx n d (some (k:Int)) = min k n:=by
 show (if (k:Int) < 0 then ((k:Int) + (n:Int)).toNat else min (k:Int).toNat n) = min k n
 rw [if_neg (by omega),Int.toNat_natCast]
theorem sIx_le (n d:Nat) (hd:d ≤ n) (o:Option Int):sIx n d o ≤ n:=by
 cases o with
 | none=>exact hd
 | some v =>
  show (if v < 0 then (v + (n:Int)).toNat else min v.toNat n) ≤ n
  by_cases hv:v < 0
  ·rw [if_pos hv];omega
  ·rw [if_neg hv];exact Nat.min_le_right _ _
end
end HT
namespace L2
open PySem PySem.Spec PyProof.Rows
abbrev TO:=St→Hp→(Option Int→Hp→Prop)→Prop
def PO (X:Cx) (e:Option Expr) (t:TO):Prop :=
 ∀ (pins:List (Addr × Obj)) (s:Shared) (σ : St) (H:Hp) (Q:Option Int→Hp→Prop),Inv X pins σ H s→t σ H Q →
  wpAny (model X.prog X.w) X.A (evalPart e X.env) (fun u s'=>∃ o H',Inv X pins σ H' s'∧IsPart u o∧Q o H') X.xe s
def Qtq:TO:=fun _ H Q=>Q none H
def tPart (t:TE):TO:=fun σ H Q=>t σ H fun x H1=>∃ i,x = .int i∧Q (some i) H1
section
variable {X : Cx} {e : Expr} {te : TE} {lo hi : Option Expr} {tl th : TO} {pos p2 : Pos}
theorem Qov:PO X none Qtq:=by
 intro pins s σ H Q I h
 rw [evalPart_none]
 exact wpAny_pure ⟨none,H,I, .none,h⟩
theorem Qc9 (h:PE X e te):PO X (some e) (tPart te):=by
 intro pins s σ H Q I hw
 rw [evalPart_some]
 refine thn (h pins s σ H _ I hw) fun u s1 ⟨x,H1,I1,r1,q1⟩=>?_
 obtain ⟨i,rfl,q⟩:=q1
 obtain ⟨t,rfl⟩:=r1
 exact ⟨some i,H1,I1, .int i t,q⟩
def SlR (X:Cx) (r:V→Option Int→Option Int→Hp→VK→Prop):Prop :=
 ∀ (pins:List (Addr × Obj)) (s:Shared) (σ : St) (H:Hp) (x:V) (v vl vu:Value) (lo hi:Option Int) (sl:Addr) (Q:VK),Inv X pins σ H s→RelV x v→s.heap.IsSliceOf sl vl vu .none→IsPart vl lo→IsPart vu hi→r x lo hi H Q →
  ∃ T id,typeLookup (.type T) "__getitem__" = pure (some (.builtin id))∧s.TypeIs v T∧wpAny (model X.prog X.w) X.A (getItem v (.ref sl)) (EP X pins σ Q) X.xe s
def tSl (r:V→Option Int→Option Int→Hp→VK→Prop) (te:TE) (tl th:TO):TE:=fun σ H Q=>te σ H fun x H1=>tl σ H1 fun l H2=>th σ H2 fun u H3=>r x l u H3 Q
theorem Qct {r:V→Option Int→Option Int→Hp→VK→Prop} (hr:SlR X r) (he:PE X e te) (hl:PO X lo tl) (hu:PO X hi th):PE X (.Subscript e (.Slice lo hi none p2) pos) (tSl r te tl th):=by
 intro pins s σ H Q I h
 refine Subscript_ (thn (he pins s σ H _ I h) fun v s1 ⟨x,H1,I1,r1,q1⟩=>?_)
 refine wpAny_Slice (thn (hl pins s1 σ H1 _ I1 q1) fun vl s2 ⟨l,H2,I2,pl,q2⟩=>thn (hu pins s2 σ H2 _ I2 q2) fun vu s3 ⟨u,H3,I3,pu,q3⟩=>?_)
 rw [evalPart_none]
 refine wpAny_pure ?_
 have I4:Inv X pins σ H3 { s3 with heap:=s3.heap.push { cls:=.type "slice",data:=.fields #[vl,vu, .none] } }:=I3.kept (t':=s3.toks) fun b ob q=>Heap.get?_push_of_some _ q
 obtain ⟨T,id,hT,ht,hg⟩:=hr pins { s3 with heap:=s3.heap.push { cls:=.type "slice",data:=.fields #[vl,vu, .none] } } σ H3 x v vl vu l u s3.heap.objs.size Q I4 r1 (Heap.IsSliceOf.new ..) pl pu q3
 show wpAny (model X.prog X.w) X.A (subscriptTail e (.Slice lo hi none p2) v (.ref s3.heap.objs.size)) (EP X pins σ Q) X.xe { s3 with heap:=s3.heap.push { cls:=.type "slice",data:=.fields #[vl,vu, .none] } }
 exact tail_any (ops:=[.ref s3.heap.objs.size,v]) ht hT hg (by with_unfolding_all rfl)
def cutV (xs:List V) (lo hi:Option Int):List V:=(xs.drop (HT.sIx xs.length 0 lo)).take (HT.sIx xs.length xs.length hi - HT.sIx xs.length 0 lo)
theorem Qkw (xs:List V) (lo hi:Option Int):(cutV xs lo hi).length ≤ xs.length:=by
 unfold cutV
 rw [List.length_take,List.length_drop]
 omega
end
end L2
namespace L2
open PySem PySem.Spec PyProof.Rows
def ixN (n:Nat) (i:Int):Option Nat:=if 0 ≤ i then (if i < n then some i.toNat else none) else if -(n:Int) ≤ i then some (i + n).toNat else none
def atI {α : Type} (xs:List α) (i:Int):Option α:=(ixN xs.length i).bind fun j=>xs[j]?
theorem Qpp {n:Nat} {i:Int} {j:Nat} (h:ixN n i = some j):seqIndex? i n = some j∧j < n∧-(n:Int) ≤ i∧i < n:=by
 unfold ixN at h
 by_cases h0 : 0 ≤ i
 ·rw [if_pos h0] at h
  by_cases h1:i < n
  ·rw [if_pos h1] at h
   have e:i.toNat = j:=Option.some.inj h
   exact ⟨by rw [seqIndex_of h0 h1,e],by omega,by omega,h1⟩
  ·rw [if_neg h1] at h;cases h
 ·rw [if_neg h0] at h
  by_cases h1 : -(n:Int) ≤ i
  ·rw [if_pos h1] at h
   have e:(i + n).toNat = j:=Option.some.inj h
   exact ⟨by rw [seqIndex_neg (by omega) h1,e],by omega,h1,by omega⟩
  ·rw [if_neg h1] at h;cases h
theorem Ql0 {α : Type} {xs:List α} {i:Int} {v : α} (h:atI xs i = some v):∃ j,seqIndex? i xs.length = some j∧xs[j]? = some v∧j < xs.length∧-(xs.length:Int) ≤ i∧i < xs.length:=by
 unfold atI at h
 cases e:ixN xs.length i with
 | none=>rw [e] at h;cases h
 | some j =>
  rw [e] at h
  obtain ⟨h1,h2,h3,h4⟩:=Qpp e
  exact ⟨j,h1,h,h2,h3,h4⟩
theorem Qcq {α : Type} {xs:List α} {j:Nat} {v : α} (h:xs[j]? = some v):atI xs (j:Int) = some v:=by
 have hj:j < xs.length:=(List.getElem?_eq_some_iff.mp h).1
 have e:ixN xs.length (j:Int) = some j:=by
  unfold ixN
  rw [if_pos (by omega),if_pos (by omega)];simp
 unfold atI;rw [e];exact h
def Quu (b:Expr):Prop:=∀ o i,subscripted b false o i = operate [o,i] (getItem o i)
def IxR (X:Cx) (r:R2):Prop :=
 ∀ (value slice:Expr) (pins:List (Addr × Obj)) (s:Shared) (σ : St) (H:Hp) (x y:V) (v u:Value) (Q:VK),Inv X pins σ H s→RelV x v→RelV y u→r x y H Q →
  subscripted slice false v u = operate [v,u] (getItem v u)→wpAny (model X.prog X.w) X.A (subscriptTail value slice v u) (EP X pins σ Q) X.xe s
def MtR (X:Cx) (id:String) (r:V→List V→Hp→VK→Prop):Prop :=
 ∀ (pins:List (Addr × Obj)) (s:Shared) (σ : St) (H:Hp) (x:V) (xs:List V) (v:Value) (us:List Value) (Q:VK),Inv X pins σ H s→RelV x v→Vals xs us→r x xs H Q →
  wpAny (model X.prog X.w) X.A (call (.builtin id) (v :: us)) (EP X pins σ Q) X.xe s
section
variable {X : Cx} {a b : Expr} {ta tb : TE} {pos : Pos}
theorem Qcd {r:R2} (hr:IxR X r) (ha:PE X a ta) (hb:PE X b tb) (hs:Quu b):PE X (.Subscript a b pos) (tOp r ta tb):=by
 intro pins s σ H Q I h
 exact Subscript_ (binT ha hb I h fun v u s2 x y H2 I2 rx ry q=>hr a b pins s2 σ H2 x y v u Q I2 rx ry q (hs _ _))
def rIxL (K:PySem.W.Frag):R2:=fun x y H Q=>∃ p xs i v,x = .ref p∧y = .int i∧SqL K H p xs∧atI xs i = some v∧Q v H
def rIxT (K:PySem.W.Frag):R2:=fun x y H Q=>∃ p xs i v,x = .ref p∧y = .int i∧SqT K H p xs∧atI xs i = some v∧Q v H
def rIxS:R2:=fun x y H Q=>∃ z i c,x = .str z∧y = .int i∧z.length ≤ sizeLine∧atI z.cps.toList i = some c∧Q (.str ⟨#[c]⟩) H
theorem Qbw:IxR X (rIxL X.K):=by
 intro value slice pins s σ H x y v u Q I rx ry h hs
 obtain ⟨p,xs,i,z,rfl,rfl,hq,he,q⟩:=h
 cases rx
 obtain ⟨t,rfl⟩:=ry
 obtain ⟨its,r,pl,hz⟩:=I.list hq
 obtain ⟨j,h1,h2,h3,h4,h5⟩:=Ql0 he
 obtain ⟨w,ew,rw'⟩:=r.get h2
 have hl:=r.length
 have hn:=Qgh
 have fin:EP X pins σ Q w s:=⟨z,H,I,rw',q⟩
 by_cases h0 : 0 ≤ i
 ·have hj:i.toNat = j:=by
   rw [seqIndex_of h0 h5] at h1
   exact Option.some.inj h1
  exact item_listR pl.isList h0 (by omega) (by rw [hj];simpa using ew) fin hs
 ·have hj:(i + (its.toArray.size:Int)).toNat = j:=by
   rw [seqIndex_neg (by omega) h4] at h1
   rw [List.size_toArray,← hl]
   exact Option.some.inj h1
  exact subscriptTail_builtinR (x:=w) pl.isList.typeIs slot_list_getitem.lookup
   (wpAny_getItem_list_neg (Q:=fun r s'=>r = w∧EP X pins σ Q r s') pl.isList (by omega) (by rw [List.size_toArray] <;> omega) (by omega) (by rw [hj];simpa using ew) ⟨rfl,fin⟩) hs
theorem Qtg:IxR X (rIxT X.K):=by
 intro value slice pins s σ H x y v u Q I rx ry h hs
 obtain ⟨p,xs,i,z,rfl,rfl,hq,he,q⟩:=h
 cases rx
 obtain ⟨t,rfl⟩:=ry
 obtain ⟨its,r,pl,hz⟩:=I.tuple hq
 obtain ⟨j,h1,h2,h3,h4,h5⟩:=Ql0 he
 obtain ⟨w,ew,rw'⟩:=r.get h2
 have hl:=r.length
 have hn:=Qgh
 have fin:EP X pins σ Q w s:=⟨z,H,I,rw',q⟩
 exact subscriptTail_builtinR (x:=w) pl.typeIs slot_tuple_getitem.lookup
  (getItem_tuple (j:=j) (Q:=fun r s'=>r = w∧EP X pins σ Q r s') pl (by omega) (by omega) (by rw [List.size_toArray,← hl];exact h1) (by simpa using ew) ⟨rfl,fin⟩) hs
theorem Qev:IxR X rIxS:=by
 intro value slice pins s σ H x y v u Q I rx ry h hs
 obtain ⟨z,i,c,rfl,rfl,hz,he,q⟩:=h
 obtain ⟨t,rfl⟩:=rx
 obtain ⟨t',rfl⟩:=ry
 obtain ⟨j,h1,h2,h3,h4,h5⟩:=Ql0 he
 have hl:z.cps.toList.length = z.length:=by simp [Str.length]
 rw [hl] at h1 h4 h5
 have hn:=Qgh
 exact tail_any (typeIs_str s z t) slot_str_getitem.lookup (getItem_str (c:=c) (by
  have e1:decide (i < -(2 ^ 63:Int)) = false:=decide_eq_false (by omega)
  have e2:decide (i ≥ 2 ^ 63) = false:=decide_eq_false (by omega)
  rw [e1,e2,Bool.or_false]) (by rw [h1];simpa using h2) ⟨.str ⟨#[c]⟩,H,I.tok _,⟨_,rfl⟩,q⟩) hs
theorem Qnk (its:List Value) (n j:Nat) (u:Value):Obj.mapSeq (·.setIfInBounds j u) { cls:=.type "list",data:=.seq its.toArray n } = { cls:=.type "list",data:=.seq (its.set j u).toArray n }:=by
 simp [Obj.mapSeq]
theorem Inv.lst {pins:List (Addr × Obj)} {σ : St} {H:Hp} {s:Shared} {p:Addr} {xs:List V} (I:Inv X pins σ H s) (h:H p = some (.lst xs)) :
  ∃ (its:List Value) (n:Nat),Vals xs its∧s.heap.get? p = some { cls:=.type "list",data:=.seq its.toArray n }∧xs.length ≤ sizeLine:=by
 obtain ⟨z,its,n,r,e⟩:=I.hok p _ h
 exact ⟨its,n,r,e,z⟩
theorem Inv.lstUpd {pins:List (Addr × Obj)} {σ : St} {H:Hp} {s:Shared} {p:Addr} {xs ys:List V} {its its':List Value} {n n':Nat} {f:Obj→Obj} (I:Inv X pins σ H s) (h:H p = some (.lst xs))
  (ho:s.heap.get? p = some { cls:=.type "list",data:=.seq its.toArray n }) (hf:f { cls:=.type "list",data:=.seq its.toArray n } = { cls:=.type "list",data:=.seq its'.toArray n' }) (r:Vals ys its') (hz:ys.length ≤ sizeLine) (t:Nat) :
  Inv X pins σ (upd H p (.lst ys)) { s with heap:=s.heap.update p f,toks:=t }:=by
 have e:(s.heap.update p f).get? p = some { cls:=.type "list",data:=.seq its'.toArray n' }:=by
  rw [Heap.get?_update_self f ho (by rw [hf] <;> rfl),hf]
 refine I.write (x:=p) (e:=p) (by rw [h];trivial) (.inl rfl) (fun b u hb q=>(Heap.get?_update_other _ _ (Ne.symm hb)).trans q) ⟨_,e⟩ ?_
 exact ⟨hz,its',n',r,e⟩
def rSetL:V→V→V→Hp→(Hp→Prop)→Prop:=fun o i v H Q=>∃ p xs k j,o = .ref p∧i = .int k∧H p = some (.lst xs)∧ixN xs.length k = some j∧Q (upd H p (.lst (xs.set j v)))
theorem Qr1:PSet X rSetL:=by
 intro pins s σ H o i v ov iv u Q I ro ri rv h
 obtain ⟨p,xs,k,j,rfl,rfl,hp,hj,q⟩:=h
 cases ro
 obtain ⟨t,rfl⟩:=ri
 obtain ⟨its,n,r,ho,hz⟩:=I.lst hp
 obtain ⟨h1,h2,h3,h4⟩:=Qpp hj
 have hl:=r.length
 have hn:=Qgh
 have I':Inv X pins σ (upd H p (.lst (xs.set j v))) { s with heap:=s.heap.update p (Obj.mapSeq (·.setIfInBounds j u)) } :=
  I.lstUpd hp ho (Qnk its n j u) (r.set rv j) (by rw [List.length_set];exact hz) s.toks
 by_cases h0 : 0 ≤ k
 ·have hk:k.toNat = j:=by
   rw [seqIndex_of h0 h4] at h1
   exact Option.some.inj h1
  exact PySem.W.ki_setAt ho h0 (by omega) (by rw [List.size_toArray,← hl];exact h4) (by rw [hk];exact ⟨_,I',q⟩)
 ·have hk:(k + (its.toArray.size:Int)).toNat = j:=by
   rw [seqIndex_neg (by omega) h3] at h1
   rw [List.size_toArray,← hl]
   exact Option.some.inj h1
  exact PySem.W.ki_setBack ho (by omega) (by rw [List.size_toArray,← hl];exact h3) (by omega) (by rw [hk];exact ⟨_,I',q⟩)
theorem Qip (lo hi:Option Int) (n:Nat):(sliceBounds lo hi none n).1 = ((HT.sIx n 0 lo:Nat):Int)∧(sliceBounds lo hi none n).2.1 = ((HT.sIx n n hi:Nat):Int)∧(sliceBounds lo hi none n).2.2 = 1:=by
 refine ⟨?_,?_,rfl⟩
 ·cases lo with
  | none=>simp [sliceBounds,HT.sIx]
  | some i =>
   simp only [sliceBounds,HT.sIx,Option.getD_none,show (1:Int) > 0 by decide,if_true]
   by_cases h:i < 0
   ·simp only [h,if_true] <;> omega
   ·simp only [h,if_false] <;> omega
 ·cases hi with
  | none=>simp [sliceBounds,HT.sIx]
  | some i =>
   simp only [sliceBounds,HT.sIx,Option.getD_none,show (1:Int) > 0 by decide,if_true]
   by_cases h:i < 0
   ·simp only [h,if_true] <;> omega
   ·simp only [h,if_false] <;> omega
theorem Qhx (its:List Value) (lo hi:Option Int):slicePick its.toArray lo hi none = ((its.drop (HT.sIx its.length 0 lo)).take (HT.sIx its.length its.length hi - HT.sIx its.length 0 lo)).toArray:=by
 obtain ⟨h1,h2,h3⟩:=Qip lo hi its.toArray.size
 unfold slicePick
 rw [h1,h2,h3]
 simp only [sliceRange_one,pick_run,List.size_toArray] <;> rfl
def rSlL (K:PySem.W.Frag):V→Option Int→Option Int→Hp→VK→Prop:=fun x lo hi H Q=>∃ a xs,x = .ref a∧SqL K H a xs∧∀ p,H p = none→Q (.ref p) (upd H p (.lst (cutV xs lo hi)))
theorem Qoh:SlR X (rSlL X.K):=by
 intro pins s σ H x v vl vu lo hi sl Q I rx hs pl pu h
 obtain ⟨a,xs,rfl,hx,q⟩:=h
 cases rx
 obtain ⟨its,r,ht,hz⟩:=I.list hx
 have hlen:=r.length
 refine ⟨"list",_,slot_list_getitem.lookup,ht.isList.typeIs,?_⟩
 refine wpAny_getItem_list_slice ht.isList hs pl pu .none (by simp) ?_ (by rw [List.size_toArray] <;> omega)
 rw [Qhx,← hlen]
 refine ⟨.ref s.heap.objs.size,_,I.laid (t':=s.toks) (o:=.lst (cutV xs lo hi)) (fun b ob q=>Heap.get?_push_of_some _ q) (Nat.le_refl _) ?_,rfl,q _ (I.hok.fresh (Nat.le_refl _))⟩
 exact ⟨Nat.le_trans (Qkw xs lo hi) hz,_,0,(r.drop (HT.sIx xs.length 0 lo)).take (HT.sIx xs.length xs.length hi - HT.sIx xs.length 0 lo),Heap.get?_push_size _ rfl⟩
def Qia:V→Bool
 | .non=>true
 | .bl _=>true
 | .int _=>true
 | .str _=>true
 | _=>false
def eqV:V→V→Bool
 | .non, .non=>true
 | .bl a, .bl b=>a == b
 | .bl a, .int b=>(if a then 1 else 0) == b
 | .int a, .bl b=>a == (if b then 1 else 0)
 | .int a, .int b=>a == b
 | .str a, .str b=>a == b
 | _,_=>false
theorem Qya {A:Around} {s:Shared} {y x:V} {u v:Value} (ry:RelV y u) (rx:RelV x v) (fy:Qia y = true) (fx:Qia x = true):SeqAt.EqAt A s u v (eqV y x):=by
 cases y with
 | non =>
  cases ry
  cases x with
  | non=>cases rx;exact SeqAt.EqAt.same _
  | bl b=>cases rx;exact SeqAt.EqAt.none_bool b
  | int b=>obtain ⟨t,rfl⟩:=rx;exact SeqAt.EqAt.none_int b t
  | str b=>obtain ⟨t,rfl⟩:=rx;exact SeqAt.EqAt.none_str b t
  | _=>exact absurd (show false = true from fx) Bool.false_ne_true
 | bl a =>
  cases ry
  cases x with
  | non=>cases rx;exact SeqAt.EqAt.bool_none a
  | bl b=>cases rx;exact SeqAt.EqAt.bool_bool a b
  | int b=>obtain ⟨t,rfl⟩:=rx;exact SeqAt.EqAt.bool_int a b t
  | str b=>obtain ⟨t,rfl⟩:=rx;exact SeqAt.EqAt.bool_str a b t
  | _=>exact absurd (show false = true from fx) Bool.false_ne_true
 | int a =>
  obtain ⟨t',rfl⟩:=ry
  cases x with
  | non=>cases rx;exact SeqAt.EqAt.int_none a t'
  | bl b=>cases rx;exact SeqAt.EqAt.int_bool a t' b
  | int b=>obtain ⟨t,rfl⟩:=rx;exact SeqAt.EqAt.int_int a t' b t
  | str b=>obtain ⟨t,rfl⟩:=rx;exact SeqAt.EqAt.int_str a t' b t
  | _=>exact absurd (show false = true from fx) Bool.false_ne_true
 | str a =>
  obtain ⟨t',rfl⟩:=ry
  cases x with
  | non=>cases rx;exact SeqAt.EqAt.str_none a t'
  | bl b=>cases rx;exact SeqAt.EqAt.str_bool a t' b
  | int b=>obtain ⟨t,rfl⟩:=rx;exact SeqAt.EqAt.str_int a t' b t
  | str b=>obtain ⟨t,rfl⟩:=rx;exact SeqAt.EqAt.str_str a t' b t
  | _=>exact absurd (show false = true from fx) Bool.false_ne_true
 | _=>exact absurd (show false = true from fy) Bool.false_ne_true
def eqU (x:V) (u:Value):Bool:=match u with
 | .none=>eqV .non x
 | .bool b=>eqV (.bl b) x
 | .int i _=>eqV (.int i) x
 | .str z _=>eqV (.str z) x
 | _=>false
theorem Qth {x y:V} {u:Value} (r:RelV y u) (f:Qia y = true):eqU x u = eqV y x:=by
 cases y with
 | non=>cases r;rfl
 | bl b=>cases r;rfl
 | int i=>obtain ⟨t,rfl⟩:=r;rfl
 | str z=>obtain ⟨t,rfl⟩:=r;rfl
 | _=>exact absurd (show false = true from f) Bool.false_ne_true
theorem Qgy {x:V}:∀ {xs:List V} {us:List Value},Vals xs us→xs.all Qia = true→us.any (eqU x) = xs.any fun y=>eqV y x
 | _,_, .nil,_=>rfl
 | y :: xs,u :: us, .cons r t,f=>by
  rw [List.all_cons,Bool.and_eq_true] at f
  rw [List.any_cons,List.any_cons,Qth r f.1,Qgy t f.2]
theorem Qer {A:Around} {s:Shared} {x:V} {v:Value} (rx:RelV x v) (fx:Qia x = true):∀ {xs:List V} {us:List Value},Vals xs us→xs.all Qia = true→∀ u ∈ us,SeqAt.EqAt A s u v (eqU x u)
 | _,_, .nil,_=>fun u hu=>by cases hu
 | y :: xs,u :: us, .cons r t,f=>fun u' hu=>by
  rw [List.all_cons,Bool.and_eq_true] at f
  rcases List.mem_cons.mp hu with rfl | hu
  ·rw [Qth r f.1];exact Qya r rx f.1 fx
  ·exact Qer rx fx t f.2 u' hu
def inV (x:V) (xs:List V):Bool:=xs.any fun y=>eqV y x
def rIn (K:PySem.W.Frag) (neg:Bool):R2:=fun x y H Q=>∃ p xs,y = .ref p∧(SqL K H p xs ∨ SqT K H p xs)∧Qia x = true∧xs.all Qia = true∧Q (.bl (if neg then !inV x xs else inV x xs)) H
theorem Qbh:OpR X (compareOp .In) (rIn X.K false):=by
 intro pins s σ H x y v u Q I rx ry h
 obtain ⟨p,xs,rfl,hq,fx,fs,q⟩:=h
 cases ry
 rcases hq with hq | hq
 ·obtain ⟨its,r,pl,hz⟩:=I.list hq
  refine SeqAt.in_listAt (eqU x) pl.isList (fun w hw=>Qer rx fx r fs w (by simpa using hw)) ⟨.bl _,H,I,rfl,?_⟩
  rw [show its.toArray.any (eqU x) = its.any (eqU x) by simp,Qgy r fs]
  exact q
 ·obtain ⟨its,r,pl,hz⟩:=I.tuple hq
  refine SeqAt.in_tupleAt (eqU x) pl (fun w hw=>Qer rx fx r fs w (by simpa using hw)) ⟨.bl _,H,I,rfl,?_⟩
  rw [show its.toArray.any (eqU x) = its.any (eqU x) by simp,Qgy r fs]
  exact q
theorem Qdr:OpR X (compareOp .NotIn) (rIn X.K true):=by
 intro pins s σ H x y v u Q I rx ry h
 obtain ⟨p,xs,rfl,hq,fx,fs,q⟩:=h
 cases ry
 rcases hq with hq | hq
 ·obtain ⟨its,r,pl,hz⟩:=I.list hq
  refine SeqAt.notIn_listAt (eqU x) pl.isList (fun w hw=>Qer rx fx r fs w (by simpa using hw)) ⟨.bl _,H,I,rfl,?_⟩
  rw [show its.toArray.any (eqU x) = its.any (eqU x) by simp,Qgy r fs]
  exact q
 ·obtain ⟨its,r,pl,hz⟩:=I.tuple hq
  refine SeqAt.notIn_tupleAt (eqU x) pl (fun w hw=>Qer rx fx r fs w (by simpa using hw)) ⟨.bl _,H,I,rfl,?_⟩
  rw [show its.toArray.any (eqU x) = its.any (eqU x) by simp,Qgy r fs]
  exact q
theorem Qfo:Qh6 X (.builtin "len") (fun xs H Q=>∃ p ys,xs = [.ref p]∧(SqL X.K H p ys ∨ SqT X.K H p ys)∧Q (.int ys.length) H):=by
 intro pins s σ H xs us Q I r h
 obtain ⟨p,ys,rfl,hq,q⟩:=h
 obtain ⟨u,rfl,rx⟩:=Qm3 r
 cases rx
 have hn:=Qgh
 rcases hq with hq | hq
 ·obtain ⟨its,r',pl,hz⟩:=I.list hq
  have hlen:=r'.length
  exact Calls.call_len_list pl.isList (by simp only [List.size_toArray] <;> omega) ⟨.int ys.length,H,I.tok _,⟨s.toks + 1,by rw [List.size_toArray,hlen]⟩,q⟩
 ·obtain ⟨its,r',pl,hz⟩:=I.tuple hq
  have hlen:=r'.length
  exact len_tuple pl (by simp only [List.size_toArray] <;> omega) ⟨.int ys.length,H,I.tok _,⟨s.toks + 1,by rw [List.size_toArray,hlen]⟩,q⟩
theorem Qb5:Qh6 X (.builtin "len") (fun xs H Q=>∃ z,xs = [.str z]∧z.length ≤ sizeLine∧Q (.int z.length) H):=by
 intro pins s σ H xs us Q I r h
 obtain ⟨z,rfl,hz,q⟩:=h
 obtain ⟨u,rfl,t,rfl⟩:=Qm3 r
 have hn:=Qgh
 exact len_str (by omega) ⟨.int z.length,H,I.tok _,⟨_,rfl⟩,q⟩
def tyV (K:PySem.W.Frag) (T:String) (x:V) (H:Hp):Prop:=match x with
 | .str _=>T = "str"
 | .int _=>T = "int"
 | .ref p=>(T = "list" ∧ ∃ xs,SqL K H p xs) ∨ (T = "tuple" ∧ ∃ o,K.lookup p = some o∧o.cls = .type "tuple" ∧ o.dict = none) ∨
   (T = "dict" ∧ ((∃ kvs,H p = some (.dK kvs)) ∨ ∃ kvs,H p = some (.dT kvs))) ∨ (T = "set" ∧ ∃ S n,H p = some (.set S n))
 | _=>False
theorem Quv {pins:List (Addr × Obj)} {σ : St} {H:Hp} {s:Shared} {T:String} {x:V} {v:Value} (I:Inv X pins σ H s) (r:RelV x v) (ty:tyV X.K T x H) :
  s.TypeIs v T∧∀ a,v = .ref a→∃ ob,s.heap.get? a = some ob∧ob.dict = none:=by
 cases x with
 | str z =>
  obtain ⟨t,rfl⟩:=r
  cases (show T = "str" from ty)
  exact ⟨typeIs_str s z t,fun _ e=>nomatch e⟩
 | int i =>
  obtain ⟨t,rfl⟩:=r
  cases (show T = "int" from ty)
  exact ⟨typeIs_int s i t,fun _ e=>nomatch e⟩
 | ref p =>
  cases r
  rcases ty with ⟨rfl,xs,hq⟩ | ⟨rfl,o,hk,hc,hd⟩ | ⟨rfl,hk⟩ | ⟨rfl,S,n,hk⟩
  ·obtain ⟨its,_,pl,_⟩:=I.list hq
   refine ⟨pl.isList.typeIs,fun a e=>?_⟩
   cases e
   obtain ⟨o,n,e,c,hd,_⟩:=pl
   exact ⟨o,e,hd⟩
  ·refine ⟨⟨o,I.kIn p o hk,hc⟩,fun a e=>?_⟩
   cases e
   exact ⟨o,I.kIn _ o hk,hd⟩
  ·have z:∃ o,s.heap.get? p = some o∧o.ExactDict:=by
    rcases hk with ⟨kvs,hk⟩ | ⟨kvs,hk⟩
    ·obtain ⟨_,_,_,_,o,_,_,e,ex,_⟩:=I.hok p _ hk
     exact ⟨o,e,ex⟩
    ·obtain ⟨_,_,_,_,o,_,_,e,ex,_⟩:=I.hok p _ hk
     exact ⟨o,e,ex⟩
   obtain ⟨o,e,ex⟩:=z
   refine ⟨⟨o,e,ex.1⟩,fun a e2=>?_⟩
   cases e2
   exact ⟨o,e,ex.2.1⟩
  ·obtain ⟨o,_,_,_,e,ex,_⟩:=I.hok p _ hk
   refine ⟨⟨o,e,ex.1⟩,fun a e2=>?_⟩
   cases e2
   exact ⟨o,e,ex.2.1⟩
 | _=>exact False.elim ty
def tBM (K:PySem.W.Frag) (T:String) (r:V→List V→Hp→VK→Prop) (to:TE) (t:TA):TE:=fun σ H Q=>to σ H fun x H1=>tyV K T x H1∧t σ H1 fun xs H2=>r x xs H2 Q
variable {o e : Expr} {es : List Expr} {to : TE} {t : TA} {name : Str} {apos cpos : Pos} {T id : String} {r : V → List V → Hp → VK → Prop}
theorem Qj1 (pa:PlainAttrs T) (slot:Slot T name id) (hty:typeOf (.builtin id) = pure (.type "method_descriptor")) (hm:MtR X id r) (ho:PE X o to) (ha:PA X (e :: es) t)
  (hbase:attributeBase o name X.env (eval o X.env) = eval o X.env:=by rfl)
  (hfew:((backTo cpos (starEach (e :: es) X.env)).all (fun x=>!x.1) && (backToKw cpos (keywordEach [] X.env)).all (fun x=>x.1.isSome)
   && decide ((e :: es).length + ([]:List Keyword).length + (if ([]:List Keyword).isEmpty then 0 else 1) < 30)) = true:=by rfl)
  (hline:(apos.endLine == cpos.line) = true:=by rfl) (hs:starEach (e :: es) X.env = (false,eval e X.env) :: starEach es X.env:=by rfl) (hplain:(backTo cpos (starEach es X.env)).any (·.1) = false:=by rfl) :
  PE X (.Call (.Attribute o name apos) (e :: es) [] cpos) (tBM X.K T r to t):=by
 intro pins s σ H Q I h
 refine wpAny_Call_method_late hbase hfew hline rfl (thn (ho pins s σ H _ I h) fun v s1 ⟨x,H1,I1,r1,ty,q1⟩=>?_)
 obtain ⟨h1,h2⟩:=Quv I1 r1 ty
 refine ⟨T,id,pa,slot,hty,h1,h2,?_⟩
 have hA:=ha cpos pins s1 σ H1 _ I1 q1
 rw [hs] at hA ⊢
 refine Calls.callWith_builtin (by show (false || (backTo cpos (starEach es X.env)).any (·.1)) = false;rw [hplain] <;> rfl) (Calls.evalArgs_plain ?_)
 exact thn hA fun us s2 ⟨vs,H2,I2,r2,q2⟩=>hm pins s2 σ H2 x vs v us Q I2 r1 r2 q2
/- xs.append(e),list.index on a module's tuple .. are MtR facts of 06m -/
end
end L2
namespace L2
open PySem PySem.Spec PyProof.Rows
def MtM (X:Cx) (id:String) (r:V→List V→Hp→VK→Prop):Prop :=
 ∀ (pins:List (Addr × Obj)) (s:Shared) (σ : St) (H:Hp) (x:V) (xs:List V) (v:Value) (us:List Value) (Q:VK),Inv X pins σ H s→RelV x v→Vals xs us→r x xs H Q →
  wpAny (model X.prog X.w) X.A (call (.builtin id) (v :: us)) (EP X pins σ Q) X.xe s
theorem Vals.one:∀ {x:V} {us:List Value},Vals [x] us→∃ u,us = [u]∧RelV x u
 | _,_, .cons r .nil=>⟨_,rfl,r⟩
section
variable {X : Cx} {pins : List (Addr × Obj)} {σ : St} {H : Hp} {s : Shared} {l b : Addr} {xs ys zs : List V}
theorem Inv.lset {its its':List Value} {n:Nat} {f:Array Value→Array Value} {t':Nat} (I:Inv X pins σ H s) (hH:H l = some (.lst xs))
  (e:s.heap.get? l = some { cls:=.type "list",data:=.seq its.toArray n }) (hf:f its.toArray = its'.toArray) (hv:Vals ys its') (hz:ys.length ≤ sizeLine) :
  Inv X pins σ (upd H l (.lst ys)) { s with heap:=s.heap.update l (Obj.mapSeq f),toks:=t' }:=by
 have q:=PySem.IsL.update e f
 rw [hf] at q
 refine I.write (x:=l) (e:=l) (by rw [hH];exact trivial) (.inl rfl) (fun b' u hb hu=>(Heap.get?_update_other s.heap (Obj.mapSeq f) (Ne.symm hb)).trans hu) ⟨_,q⟩ ?_
 exact ⟨hz,its',_,hv,q⟩
theorem Inv.lnew {its:List Value} {t':Nat} (I:Inv X pins σ H s) (hv:Vals ys its) (hz:ys.length ≤ sizeLine) :
  Inv X pins σ (upd H s.heap.objs.size (.lst ys)) { s with heap:=s.heap.push { cls:=.type "list",data:=.seq its.toArray },toks:=t' } :=
 I.laid (fun _ _ q=>Heap.get?_push_of_some _ q) (Nat.le_refl _) ⟨hz,its,0,hv,Heap.get?_push_size _ rfl⟩
theorem Inv.fresh (I:Inv X pins σ H s):H s.heap.objs.size = none:=I.hok.fresh (Nat.le_refl _)
theorem Inv.lstM (I:Inv X pins σ H s) (hH:H l = some (.lst xs)):xs.length ≤ sizeLine∧∃ (its:List Value) (n:Nat),Vals xs its∧xs.length = its.length∧s.heap.get? l = some { cls:=.type "list",data:=.seq its.toArray n }:=by
 obtain ⟨z,its,n,r,e⟩:=I.hok l _ hH
 exact ⟨z,its,n,r,r.length,e⟩
end
section
variable {X : Cx}
def Qor:V→List V→Hp→VK→Prop:=fun x vs H Q=>∃ l xs y,x = .ref l∧vs = [y]∧H l = some (.lst xs)∧xs.length < sizeLine∧Q .non (upd H l (.lst (xs ++ [y])))
theorem Qcn:MtM X "list.append" Qor:=by
 intro pins s σ H x vs v us Q I rx rv h
 obtain ⟨l,xs,y,rfl,rfl,hH,hz,q⟩:=h
 cases rx
 obtain ⟨u,rfl,ru⟩:=rv.one
 obtain ⟨z,its,n,r,hl,e⟩:=I.lstM hH
 refine call_meets F.slot_list_append ⟨_,e,rfl⟩ F.entry_list_append (F.args_list_append_2 _ _) (PySem.list_append l its.toArray n u (by rw [List.size_toArray];omega)) ⟨e,?_⟩
 refine ⟨.non,_,I.lset (its':=its ++ [u]) hH e (by simp) (r.append (.cons ru .nil)) ?_,rfl,q⟩
 rw [List.length_append,List.length_singleton]
 omega
def rCat:R2:=fun x y H Q=>∃ l b xs zs,x = .ref l∧y = .ref b∧H l = some (.lst xs)∧H b = some (.lst zs)∧xs.length + zs.length ≤ sizeLine∧∀ p,H p = none→Q (.ref p) (upd H p (.lst (xs ++ zs)))
theorem Qt5:OpR X (binaryOp .Add) rCat:=by
 intro pins s σ H x y v u Q I rx ry h
 obtain ⟨l,b,xs,zs,rfl,rfl,hH,hB,hz,q⟩:=h
 cases rx
 cases ry
 obtain ⟨z,its,n,r,hl,e⟩:=I.lstM hH
 obtain ⟨z2,its2,n2,r2,hl2,e2⟩:=I.lstM hB
 refine PySem.P.add_list e e2 ?_ (by rw [List.size_toArray,List.size_toArray];omega)
 have ea:its.toArray ++ its2.toArray = (its ++ its2).toArray:=by simp
 rw [ea]
 exact ⟨.ref _,_,I.lnew (t':=s.toks) (r.append r2) (by rw [List.length_append];omega),rfl,q _ I.fresh⟩
end
section
variable {prog : Program} {w : World} {A : Around} {E : Value → Shared → Prop} {s : Shared}
set_option maxRecDepth 100000 in
end
section
variable {X : Cx}
end
end L2
namespace L2
open PySem PySem.Spec PyProof.Rows
theorem Vals.ints:∀ {ns:List Int} {us:List Value},Vals (ns.map V.int) us→IntsAre us ns
 | [],us,h=>by
  rw [List.map_nil] at h
  cases h
  exact IntsAre.nil
 | n :: ns,us,h=>by
  rw [List.map_cons] at h
  cases h with
  | cons r t =>
   obtain ⟨k,rfl⟩:=r
   exact IntsAre.cons n k (Vals.ints t)
theorem Vals.ref1 {a:Addr} {us:List Value} (r:Vals [V.ref a] us):us = [Value.ref a]:=by
 cases r with
 | cons r t =>
  cases t
  cases r
  rfl
section
variable {prog : Program} {w : World} {A : Around} {E : Value → Shared → Prop} {s : Shared} {l : Addr} {its : List Value} {ns : List Int} {Q : Value → Shared → Prop}
theorem Qts (hh:A.handled = none) (hl:s.heap.IsList l its.toArray) (hi:IntsAre its ns)
  (h:∀ h' tk t',(∀ b o,s.heap.get? b = some o→h'.get? b = some o)→Q (.int ns.sum t') { s with heap:=h',toks:=tk }):wpAny (model prog w) A (call (.builtin "sum") [.ref l]) Q E s:=by
 obtain ⟨xs,e⟩:=hi.allInts.items
 have hn:numsOf (intItems xs).toList = ns:=by rw [← e];exact hi.numsOf
 rw [nums_intItems] at hn
 rw [e] at hl
 refine PySem.sum_intListG hh hl fun h' tk t' hk=>?_
 have:=h h' tk t' hk
 rw [preSum_eq,List.take_of_length_le (by simp),hn];exact this
theorem Quh (hh:A.handled = none) (hl:s.heap.IsList l its.toArray) (hi:IntsAre its ns) (hne : 0 < ns.length)
  (h:∀ h' tk M t',(∀ b o,s.heap.get? b = some o→h'.get? b = some o)→M ∈ ns→(∀ a,a ∈ ns→a ≤ M)→Q (.int M t') { s with heap:=h',toks:=tk }):wpAny (model prog w) A (call (.builtin "max") [.ref l]) Q E s:=by
 obtain ⟨xs,e⟩:=hi.allInts.items
 have hn:numsOf (intItems xs).toList = ns:=by rw [← e];exact hi.numsOf
 rw [nums_intItems] at hn
 subst hn
 rw [e] at hl
 have hsz : 0 < xs.size:=by simpa using hne
 refine PySem.max_intList hh hl hsz fun v h' tk hv hk=>?_
 obtain ⟨t,rfl⟩:=intItems_at hv
 obtain ⟨h1,h2⟩:=argBest_gt (numAt xs) (xs.size - 1)
 refine h h' tk _ t hk ?_ fun a ha=>?_
 ·rw [numAt_eq];exact PySem.getD_mem (by rw [List.length_map,Array.length_toList];omega)
 ·obtain ⟨j,hj,rfl⟩:=mem_getD ha
  rw [List.length_map,Array.length_toList] at hj
  rw [← numAt_eq];exact h2 j (by omega)
end
section
variable {X : Cx}
def rSum (K:PySem.W.Frag):List V→Hp→VK→Prop:=fun vs H Q=>∃ (a:Addr) (ns:List Int),vs = [V.ref a]∧SqL K H a (ns.map V.int)∧Q (.int ns.sum) H
def rMax (K:PySem.W.Frag):List V→Hp→VK→Prop:=fun vs H Q=>∃ (a:Addr) (ns:List Int),vs = [V.ref a]∧SqL K H a (ns.map V.int)∧0 < ns.length∧∀ m,m ∈ ns→(∀ y,y ∈ ns→y ≤ m)→Q (.int m) H
theorem Qye (hc:X.calm = true):Qh6 X (.builtin "sum") (rSum X.K):=by
 intro pins s σ H vs us Q I r h
 obtain ⟨a,ns,rfl,hs,q⟩:=h
 obtain ⟨its,rv,hl,_⟩:=I.list hs
 rw [Vals.ref1 r]
 exact Qts (I.ok.hd hc) hl.isList rv.ints fun h' tk t' hk=>⟨.int _,H,I.kept hk,⟨_,rfl⟩,q⟩
theorem Qyf (hc:X.calm = true):Qh6 X (.builtin "max") (rMax X.K):=by
 intro pins s σ H vs us Q I r h
 obtain ⟨a,ns,rfl,hs,hne,q⟩:=h
 obtain ⟨its,rv,hl,_⟩:=I.list hs
 rw [Vals.ref1 r]
 exact Quh (I.ok.hd hc) hl.isList rv.ints hne fun h' tk m t' hk h1 h2=>⟨.int _,H,I.kept hk,⟨_,rfl⟩,q m h1 h2⟩
end
section
variable {X : Cx}
end
section
variable {X : Cx}
end
section
variable {X : Cx}
end
section
variable {X : Cx} {pins : List (Addr × Obj)} {σ : St} {H : Hp} {s : Shared}
end
section
variable {X : Cx}
end
end L2
namespace L2
open PySem PySem.Spec PyProof.Rows
abbrev Qtm (h:Heap) (c:Addr) (v:Option Value):Prop:=h.IsCell c v
def relS (scope sc:Scope):Scope :=
 { scope with names:=scope.names.map fun (n,k)=>if (k == .free && sc.kind == .function && sc.names.lookup n == some .cell) then (n, .cell) else (n,k) }
def Qba (cells:List (Str × Addr)):List (Str × NameKind)→List (Str × Addr)→List (Str × Addr)
 | [],acc=>acc
 | (n,k) :: r,acc=>if k == .free then Qba cells r ((n,(cells.lookup n).getD 0) :: acc) else Qba cells r acc
theorem Qfm (env:Env) (f:Str × NameKind→List (Str × Addr)→Sem (ForInStep (List (Str × Addr))))
  (hf:∀ n k c,f (n,k) c = if k == .free then (do let a ← cellOf env n;pure (.yield ((n,a) :: c))) else pure (.yield c)) :
  ∀ (names:List (Str × NameKind)) (acc:List (Str × Addr)),(∀ y ∈ names,y.2 = .free→∃ c,env.cells.lookup y.1 = some c)→forIn names acc f = pure (Qba env.cells names acc)
 | [],acc,_=>by rw [List.forIn_nil];rfl
 | (n,k) :: r,acc,h=>by
  rw [List.forIn_cons,hf]
  have ih:=fun acc=>Qfm env f hf r acc fun y hy=>h y (List.mem_cons_of_mem _ hy)
  unfold Qba
  by_cases hk:(k == NameKind.free) = true
  ·rw [if_pos hk,if_pos hk]
   obtain ⟨c,hc⟩:=h (n,k) List.mem_cons_self (by simpa using hk)
   have e:cellOf env n = pure c:=by unfold cellOf;rw [hc]
   rw [e]
   have e2:(env.cells.lookup n).getD 0 = c:=by rw [hc];rfl
   rw [e2]
   exact ih _
  ·rw [if_neg hk,if_neg hk]
   exact ih _
theorem Qnu {scope:Scope} {env:Env} (h:∀ y ∈ scope.names,y.2 = .free→∃ c,env.cells.lookup y.1 = some c):closureFor scope env = pure (Qba env.cells scope.names []):=by
 simp only [closureFor]
 rw [Qfm env _ (fun n k c=>rfl) scope.names [] h]
 rfl
theorem Qf7 {α : Type}:∀ {l:List (Str × α)} {n:Str} {c : α},(n,c) ∈ l→∃ c',l.lookup n = some c'
 | (k,v) :: r,n,c,h=>by
  rw [List.lookup_cons]
  cases hb:n == k with
  | true=>exact ⟨_,rfl⟩
  | false =>
   rcases List.mem_cons.mp h with e | h
   ·cases e;simp at hb
   ·exact Qf7 h
theorem Qdf {cells:List (Str × Addr)}:∀ {names:List (Str × NameKind)} {acc:List (Str × Addr)} {n:Str} {c:Addr},(n,c) ∈ Qba cells names acc→(n,c) ∈ acc ∨ ((n, .free) ∈ names∧c = (cells.lookup n).getD 0)
 | [],_,_,_,h=>.inl h
 | (m,k) :: r,acc,n,c,h=>by
  unfold Qba at h
  split at h
  ·rename_i hk
   have hk:k = .free:=by simpa using hk
   rcases Qdf h with h | ⟨h1,h2⟩
   ·rcases List.mem_cons.mp h with e | h
    ·cases e;exact .inr ⟨hk ▸ List.mem_cons_self,rfl⟩
    ·exact .inl h
   ·exact .inr ⟨List.mem_cons_of_mem _ h1,h2⟩
  ·rcases Qdf h with h | ⟨h1,h2⟩
   ·exact .inl h
   ·exact .inr ⟨List.mem_cons_of_mem _ h1,h2⟩
theorem Qel {cells:List (Str × Addr)}:∀ {names:List (Str × NameKind)} {acc:List (Str × Addr)} {p:Str × Addr},p ∈ acc→p ∈ Qba cells names acc
 | [],_,_,h=>h
 | (m,k) :: r,acc,p,h=>by
  unfold Qba
  split
  ·exact Qel (List.mem_cons_of_mem _ h)
  ·exact Qel h
theorem Qek {cells:List (Str × Addr)}:∀ {names:List (Str × NameKind)} {acc:List (Str × Addr)} {n:Str},(n, .free) ∈ names→(n,(cells.lookup n).getD 0) ∈ Qba cells names acc
 | (m,k) :: r,acc,n,h=>by
  unfold Qba
  rcases List.mem_cons.mp h with e | h
  ·cases e
   exact Qel List.mem_cons_self
  ·split
   ·exact Qek h
   ·exact Qek h
theorem Qdw:∀ {names:List (Str × NameKind)} {h:Heap} {acc:List (Str × Addr)} {x:Str} {c:Addr},(x,c) ∈ cellsFrom h.objs.size names acc →
  (x,c) ∈ acc ∨ ((x, .cell) ∈ names∧h.objs.size ≤ c∧Qtm (pushCells h names) c none)
 | [],_,_,_,_,h=>.inl h
 | (n,k) :: r,h,acc,x,c,hm=>by
  unfold cellsFrom at hm
  unfold pushCells
  split at hm
  ·rename_i hk
   rw [if_pos hk]
   have hk:k = .cell:=by simpa using hk
   rw [← Heap.size_push h { cls:=.type "cell",data:=.cell none }] at hm
   rcases Qdw hm with hm | ⟨h1,h2,h3⟩
   ·rcases List.mem_cons.mp hm with e | hm
    ·cases e
     exact .inr ⟨hk ▸ List.mem_cons_self,Nat.le_refl _,_,pushCells_keeps r _ _ _ (Heap.get?_push_size _ rfl),rfl⟩
    ·exact .inl hm
   ·rw [Heap.size_push] at h2
    exact .inr ⟨List.mem_cons_of_mem _ h1,Nat.le_of_succ_le h2,h3⟩
  ·rename_i hk
   rw [if_neg hk]
   rcases Qdw hm with hm | ⟨h1,h2,h3⟩
   ·exact .inl hm
   ·exact .inr ⟨List.mem_cons_of_mem _ h1,h2,h3⟩
theorem Qex:∀ {names:List (Str × NameKind)} {n:Nat} {acc:List (Str × Addr)} {p:Str × Addr},p ∈ acc→p ∈ cellsFrom n names acc
 | [],_,_,_,h=>h
 | (m,k) :: r,n,acc,p,h=>by
  unfold cellsFrom
  split
  ·exact Qex (List.mem_cons_of_mem _ h)
  ·exact Qex h
theorem Qgv:∀ {names:List (Str × NameKind)} {n:Nat} {acc:List (Str × Addr)} {x:Str},(x, .cell) ∈ names→∃ c,(x,c) ∈ cellsFrom n names acc
 | (m,k) :: r,n,acc,x,h=>by
  unfold cellsFrom
  rcases List.mem_cons.mp h with e | h
  ·cases e
   exact ⟨n,Qex List.mem_cons_self⟩
  ·split
   ·exact Qgv h
   ·exact Qgv h
theorem Qgu:∀ {names:List (Str × NameKind)} {h:Heap} {acc:List (Str × Addr)} {x y:Str} {c:Addr},(∀ p ∈ acc,p.2 < h.objs.size)→(∀ x y c,(x,c) ∈ acc→(y,c) ∈ acc→x = y) →
  (x,c) ∈ cellsFrom h.objs.size names acc→(y,c) ∈ cellsFrom h.objs.size names acc→x = y
 | [],_,_,_,_,_,_,hi,h1,h2=>hi _ _ _ h1 h2
 | (n,k) :: r,h,acc,x,y,c,hl,hi,h1,h2=>by
  unfold cellsFrom at h1 h2
  split at h1
  ·rename_i hk
   rw [if_pos hk] at h2
   rw [← Heap.size_push h { cls:=.type "cell",data:=.cell none }] at h1 h2
   refine Qgu (h:=h.push _) (fun p hp=>?_) (fun x y c a b=>?_) h1 h2
   ·rw [Heap.size_push]
    rcases List.mem_cons.mp hp with rfl | hp
    ·exact Nat.lt_succ_self _
    ·exact Nat.lt_succ_of_lt (hl p hp)
   ·rcases List.mem_cons.mp a with e | a <;> rcases List.mem_cons.mp b with e' | b
    ·cases e;cases e';rfl
    ·cases e;exact absurd (hl _ b) (Nat.lt_irrefl _)
    ·cases e';exact absurd (hl _ a) (Nat.lt_irrefl _)
    ·exact hi _ _ _ a b
  ·rename_i hk
   rw [if_neg hk] at h2
   exact Qgu hl hi h1 h2
theorem Qkm {M:Model} {A:Around} {E:Value→Shared→Prop} {s:Shared} {scope:Scope} {globals:Addr} {closure:List (Str × Addr)} {qual:Str} {func:Option Addr} {code:Value} {around:Env} {builtins:Addr} {Q:Env→Shared→Prop}
  (h:Q (newEnv scope s.heap.objs.size globals (cellsFrom (s.heap.objs.size + 1) scope.names closure) qual func code (some around) builtins)
   { s with heap:=pushCells (s.heap.push { cls:=.type "dict",data:=.dict #[] }) scope.names }) :
  wpAny M A (newFunctionEnv scope globals closure [] qual func code (some around) builtins) Q E s:=by
 simp only [newFunctionEnv,Option.isSome_some,if_true]
 refine wpAny_bind (wpAny_alloc ?_)
 refine wpAny_bind (wpAny_layCells _ (fun n k c=>rfl) scope.names closure _ _ ?_)
 rw [show ({ s with heap:=s.heap.push { cls:=.type "dict",data:=.dict #[] } }:Shared).heap.objs.size = s.heap.objs.size + 1 from Heap.size_push ..]
 rw [List.forIn_nil]
 exact wpAny_bind (wpAny_pure (wpAny_pure h))
theorem Qei {sc:Scope}:∀ {names:List (Str × NameKind)} {x:Str} {k:NameKind},
  (names.map fun (n,k)=>if (k == NameKind.free && sc.kind == .function && sc.names.lookup n == some .cell) then (n,NameKind.cell) else (n,k)).lookup x = some k →
  ∃ k',names.lookup x = some k'∧(k = k' ∨ (k' = .free∧k = .cell))
 | [],_,_,h=>by simp at h
 | (n,k₀) :: r,x,k,h=>by
  have ih:=@Qei sc r x k
  have h':List.lookup x ((if (k₀ == NameKind.free && sc.kind == .function && sc.names.lookup n == some .cell) = true then (n,NameKind.cell) else (n,k₀)) :: (r.map _)) = some k:=h
  cases hx:x == n with
  | true =>
   simp only [List.lookup_cons,hx]
   by_cases hc:(k₀ == NameKind.free && sc.kind == .function && sc.names.lookup n == some .cell) = true
   ·rw [if_pos hc] at h'
    simp only [List.lookup_cons,hx] at h'
    cases h'
    simp only [Bool.and_eq_true,beq_iff_eq] at hc
    exact ⟨k₀,rfl, .inr ⟨hc.1.1,rfl⟩⟩
   ·rw [if_neg hc] at h'
    simp only [List.lookup_cons,hx] at h'
    cases h'
    exact ⟨_,rfl, .inl rfl⟩
  | false =>
   simp only [List.lookup_cons,hx]
   by_cases hc:(k₀ == NameKind.free && sc.kind == .function && sc.names.lookup n == some .cell) = true
   ·rw [if_pos hc] at h'
    simp only [List.lookup_cons,hx] at h'
    exact ih h'
   ·rw [if_neg hc] at h'
    simp only [List.lookup_cons,hx] at h'
    exact ih h'
structure Qqr (N:List Str) (sc scope:Scope) (own:List (Str × Nat)):Prop where
 kind:scope.kind = .function
 uniq:∀ y ∈ scope.names,scope.names.lookup y.1 = some y.2
 ix:∀ p ∈ own,N[p.2]? = some p.1
 free:∀ y ∈ scope.names,y.2 = .free→sc.names.lookup y.1 = some .cell ∨ sc.names.lookup y.1 = some .free
 own:∀ y ∈ scope.names,y.2 = .local ∨ y.2 = .cell→y.1 ∈ own.map (·.1) ∨ y.1 ∉ N
def wipe (σ : St):List Nat→St
 | []=>σ
 | v :: vs=>(wipe σ vs).set v none
theorem Qeb (σ : St):∀ vs:List Nat,(wipe σ vs).length = σ.length
 | []=>rfl
 | v :: vs=>by unfold wipe;rw [List.length_set,Qeb σ vs]
theorem Qfx {σ : St} {i:Nat} {x:V}:∀ {vs:List Nat},(wipe σ vs)[i]? = some (some x)→σ[i]? = some (some x)∧i ∉ vs
 | [],h=>⟨h,by simp⟩
 | v :: vs,h=>by
  unfold wipe at h
  by_cases hi:v = i
  ·subst hi
   by_cases hv:v < (wipe σ vs).length
   ·rw [List.getElem?_set_self hv] at h;cases h
   ·rw [List.getElem?_eq_none (by simpa using hv)] at h;cases h
  ·rw [List.getElem?_set_ne hi] at h
   obtain ⟨h1,h2⟩:=Qfx h
   exact ⟨h1,by simp only [List.mem_cons,not_or];exact ⟨fun e=>hi e.symm,h2⟩⟩
abbrev Cx.blk (X:Cx) (s:Shared) (H:Hp) (scope:Scope) (cenv:Env) (fp:List Addr):Cx:={ X with s_0:=s,H_0:=H,env:=cenv,outer:=X.stack,ex:=fp,fn:=fun x=>scope.names.lookup x == some .cell,pn:=[],xe:=fun _ _=>False }
section
variable {X : Cx} {pins : List (Addr × Obj)} {σ : St} {H : Hp} {s : Shared}
theorem Qkz {scope:Scope} {own:List (Str × Nat)} {fp:List Addr} (I:Inv X pins σ H s) (ok:Qqr X.N X.env.scope scope own) (hN:X.N.Nodup) (hfp:∀ b ∈ fp,FpOk X pins H b∧b < s.heap.objs.size) :
  Inv (X.blk s H scope (compEnvC scope (cellsFrom (s.heap.objs.size + 1) scope.names (Qba X.env.cells scope.names [])) s.heap.objs.size X.env) fp) [] (wipe σ (own.map (·.2))) H { s with heap:=pushCells (s.heap.push { cls:=.type "dict",data:=.dict #[] }) scope.names }:=by
 have hfree:∀ y ∈ scope.names,y.2 = .free→∃ c,X.env.cells.lookup y.1 = some c:=fun y hy e=>by
  rcases ok.free y hy e with k | k
  ·exact I.ok.has _ (.inl k)
  ·exact I.ok.has _ (.inr k)
 generalize hcenv:compEnvC scope (cellsFrom (s.heap.objs.size + 1) scope.names (Qba X.env.cells scope.names [])) s.heap.objs.size X.env = cenv
 have kp:∀ b o,s.heap.get? b = some o→(pushCells (s.heap.push { cls:=.type "dict",data:=.dict #[] }) scope.names).get? b = some o:=fun b o e=>pushCells_keeps _ _ _ _ (Heap.get?_push_of_some _ e)
 have hL:cenv.locals = s.heap.objs.size:=by rw [← hcenv];rfl
 have hcl:cenv.cells = cellsFrom (s.heap.objs.size + 1) scope.names (Qba X.env.cells scope.names []):=by rw [← hcenv];rfl
 have hsc:cenv.scope = relS scope X.env.scope:=by rw [← hcenv];rfl
 rw [← Heap.size_push s.heap { cls:=.type "dict",data:=.dict #[] }] at hcl
 have cm:∀ {y c},(y,c) ∈ Qba X.env.cells scope.names []→X.env.cells.lookup y = some c∧c < s.heap.objs.size:=fun {y c} hm=>by
  rcases Qdf hm with hm | ⟨h1,rfl⟩
  ·cases hm
  ·obtain ⟨c,hc⟩:=hfree _ h1 rfl
   rw [hc]
   obtain ⟨w,z⟩:=I.cell _ _ hc
   exact ⟨rfl,z.lt⟩
 have mem:∀ {y c},cenv.cells.lookup y = some c→(X.env.cells.lookup y = some c∧c < s.heap.objs.size) ∨ (s.heap.objs.size + 1 ≤ c∧Qtm (pushCells (s.heap.push { cls:=.type "dict",data:=.dict #[] }) scope.names) c none):=fun {y c} e=>by
  rw [hcl] at e
  rcases Qdw (PySem.mem_of_lookup e) with hm | ⟨_,h2,h3⟩
  ·exact .inl (cm hm)
  ·rw [Heap.size_push] at h2;exact .inr ⟨h2,h3⟩
 have look:∀ {y},scope.names.lookup y = some .free→∃ c,cenv.cells.lookup y = some c∧X.env.cells.lookup y = some c:=fun {y} hl=>by
  have hy:(y,NameKind.free) ∈ scope.names:=PySem.mem_of_lookup hl
  obtain ⟨c',e'⟩:=Qf7 (Qex (names:=scope.names) (n:=(s.heap.push { cls:=.type "dict",data:=.dict #[] }).objs.size) (Qek (cells:=X.env.cells) (acc:=[]) hy))
  rw [← hcl] at e'
  refine ⟨c',e',?_⟩
  rw [hcl] at e'
  rcases Qdw (PySem.mem_of_lookup e') with hm | ⟨h1,_,_⟩
  ·exact (cm hm).1
  ·have:=ok.uniq _ h1
   rw [hl] at this;cases this
 have okB:(X.blk s H scope cenv fp).Ok:=by
  refine ⟨I.ok.mod,by show cenv.scope.kind = _;rw [hsc];exact ok.kind,by show cenv.globals = _;rw [← hcenv];exact I.ok.glob,by show cenv.builtins = _;rw [← hcenv];exact I.ok.blt,by show s.heap.objs.size ≤ cenv.locals;rw [hL];exact Nat.le_refl _,
   fun y z c e1 e2=>?_,fun y hy=>?_,fun y c z e=>?_,I.ok.hd,I.ok.frames, .inl rfl,fun b hb=>⟨?_,fun y c e z=>?_⟩,I.bs,Nat.le_trans I.ok.bsz I.sz,fun b o e hb=>?_,fun b hb z=>?_,I.stack,I.stkFree⟩
  ·have e1:cenv.cells.lookup y = some c:=e1
   have e2:cenv.cells.lookup z = some c:=e2
   rw [hcl] at e1 e2
   refine Qgu (fun p hp=>?_) (fun y z c a b=>I.ok.inj y z c (cm a).1 (cm b).1) (PySem.mem_of_lookup e1) (PySem.mem_of_lookup e2)
   rw [Heap.size_push]
   exact Nat.lt_succ_of_lt (cm (y:=p.1) (c:=p.2) hp).2
  ·show ∃ c,cenv.cells.lookup y = some c
   have key:∀ k,cenv.kindOf y = some k→(k = .cell ∨ k = .free)→∃ c,cenv.cells.lookup y = some c:=fun k hk hk'=>by
    unfold Env.kindOf at hk
    rw [hsc] at hk
    obtain ⟨k',e,r⟩:=Qei hk
    have:k' = .cell ∨ k' = .free:=by
     rcases r with rfl | ⟨rfl,_⟩
     ·exact hk'
     ·exact .inr rfl
    rcases this with rfl | rfl
    ·obtain ⟨c,hm⟩:=Qgv (n:=(s.heap.push { cls:=.type "dict",data:=.dict #[] }).objs.size) (acc:=Qba X.env.cells scope.names []) (PySem.mem_of_lookup e)
     obtain ⟨c',e'⟩:=Qf7 hm
     exact ⟨c',by rw [hcl];exact e'⟩
    ·obtain ⟨c,h1,_⟩:=look e
     exact ⟨c,h1⟩
   rcases hy with hy | hy
   ·exact key _ hy (.inl rfl)
   ·exact key _ hy (.inr rfl)
  ·have z:(scope.names.lookup y == some NameKind.cell) = true:=z
   have z:scope.names.lookup y = some .cell:=by simpa using z
   have e:cenv.cells.lookup y = some c:=e
   rw [hcl] at e
   rcases Qdw (PySem.mem_of_lookup e) with hm | ⟨_,h2,_⟩
   ·rcases Qdf hm with hm | ⟨h1,_⟩
    ·cases hm
    ·have q:=ok.uniq _ h1
     rw [z] at q;cases q
   ·rw [Heap.size_push] at h2
    exact Nat.le_of_succ_le h2
  ·show b ≠ cenv.locals
   rw [hL];exact Nat.ne_of_lt (hfp b hb).2
  ·have e:cenv.cells.lookup y = some c:=e
   rcases mem e with ⟨h1,_⟩ | ⟨h1,_⟩
   ·exact (hfp b hb).1.2.2.2.2.1 y c h1 z
   ·have h2:s.heap.objs.size + 1 ≤ b:=by rw [← z];exact h1
    exact absurd (Nat.lt_of_lt_of_le (hfp b hb).2 (Nat.le_of_succ_le h2)) (Nat.lt_irrefl _)
  ·rcases (hfp b hb).1.2.2.2.1 with z | z
   ·exact I.ok.noex b o e z
   ·exact absurd (Nat.lt_of_lt_of_le (Heap.lt_size e) (Nat.le_trans I.ok.bsz z)) (Nat.lt_irrefl _)
  ·rcases List.mem_cons.mp (I.stkSub b z) with z | z
   ·exact (hfp b hb).1.2.1 z
   ·exact (hfp b hb).1.2.2.1 z
 refine ⟨okB,rfl,I.bare,Un.kept kp,⟨fun _=>none,?_,fun i y av e1 e2 e3=>?_⟩,fun y c e=>?_,?_,fun y c e=>?_,fun p hp=>?_,I.hok.kept kp,by rw [Qeb];exact I.len⟩
 ·show Heap.Ns _ cenv.locals _
  rw [hL]
  exact Heap.Ns.keeps (Heap.Ns.new ..) fun b o e=>pushCells_keeps _ _ _ _ e
 ·obtain ⟨e2,hne⟩:=Qfx e2
  have hfr:scope.names.lookup y = some .free∧(cenv.kindOf y = some .cell ∨ cenv.kindOf y = some .free):=by
   have key:∀ k,cenv.scope.names.lookup y = some k→k = .local ∨ k = .cell ∨ k = .free→scope.names.lookup y = some .free∧(cenv.kindOf y = some .cell ∨ cenv.kindOf y = some .free):=fun k hk hk'=>by
    have hk0:=hk
    rw [hsc] at hk
    obtain ⟨k',e,r⟩:=Qei hk
    have no : ¬ (k' = .local ∨ k' = .cell):=fun hh=>by
     rcases ok.own _ (PySem.mem_of_lookup e) hh with e' | e'
     ·obtain ⟨p,hp,hpy⟩:=List.mem_map.mp e'
      have e3:=ok.ix p hp
      have:p.1 = y:=hpy
      rw [this] at e3
      exact hne (List.mem_map.mpr ⟨p,hp,Qi3 hN e3 e1⟩)
     ·exact e' (List.mem_of_getElem? e1)
    rcases r with rfl | ⟨rfl,rfl⟩
    ·rcases hk' with rfl | rfl | rfl
     ·exact absurd (.inl rfl) no
     ·exact absurd (.inr rfl) no
     ·exact ⟨e, .inr hk0⟩
    ·exact ⟨e, .inl hk0⟩
   have e3:Vis cenv.scope y:=e3
   rcases e3 with e3 | e3 | e3
   ·exact key _ e3 (.inl rfl)
   ·exact key _ e3 (.inr (.inl rfl))
   ·exact key _ e3 (.inr (.inr rfl))
  obtain ⟨m,hn,hl⟩:=I.loc
  have hvis:Vis X.env.scope y:=(ok.free _ (PySem.mem_of_lookup hfr.1) rfl).elim (fun k=>.inr (.inl k)) (fun k=>.inr (.inr k))
  obtain ⟨w,r,q⟩:=hl i y av e1 e2 hvis
  refine ⟨w,r, .inr ⟨hfr.2,?_⟩⟩
  obtain ⟨c,h1,h2⟩:=look hfr.1
  rcases q with ⟨k,_⟩ | ⟨_,c',e',z⟩
  ·have k:X.env.scope.names.lookup y = some .local:=k
   rcases ok.free _ (PySem.mem_of_lookup hfr.1) rfl with k' | k' <;> rw [show X.env.scope.names.lookup y = _ from k'] at k <;> cases k
  ·rw [h2] at e';cases e'
   exact ⟨c,h1,z.keeps kp⟩
 ·have e:cenv.cells.lookup y = some c:=e
  rcases mem e with ⟨h1,_⟩ | ⟨_,z⟩
  ·obtain ⟨w,z⟩:=I.cell y c h1
   exact ⟨w,z.keeps kp⟩
  ·exact ⟨_,z⟩
 ·show H cenv.locals = none
  rw [hL];exact I.hok.fresh (Nat.le_refl _)
 ·have e:cenv.cells.lookup y = some c:=e
  rcases mem e with ⟨h1,_⟩ | ⟨h1,_⟩
  ·exact I.freeC y c h1
  ·exact I.hok.fresh (Nat.le_of_succ_le h1)
 ·exact absurd (show p ∈ ([]:List (Addr × Obj)) ++ [] from hp) (by simp)
theorem Qyi {E:Value→Shared→Prop} {D:Addr} {xs:List V} {y:V} {v:Value} {Q:Value→Shared→Prop} (I:Inv X pins σ H s) (hD:H D = some (.lst xs)) (hz:xs.length < sizeLine) (r:RelV y v)
  (h:∀ s',Inv X pins σ (upd H D (.lst (xs ++ [y]))) s'→Q .none s'):wpAny (model X.prog X.w) X.A (call (.builtin "list.append") [.ref D,v]) Q E s:=by
 obtain ⟨hz',its,n,ri,e⟩:=I.hok D _ hD
 have hl:=ri.length
 refine append_at (hsz:=by rw [List.size_toArray];omega) e fun h' sb ho'=>?_
 refine h { s with heap:=h' } (I.write (t':=s.toks) (by rw [hD];trivial) (.inl rfl) (fun b u hb q=>(sb.2 b hb).trans q) ⟨_,ho'⟩ ⟨by rw [List.length_append];exact hz,its ++ [v],n + 1,ri.append (.cons r .nil),?_⟩)
 rw [ho']
 simp
def PTs (X:Cx) (ifs:List Expr) (t:TT):Prop :=
 ∀ (pins:List (Addr × Obj)) (s:Shared) (σ : St) (H:Hp) (Q:Bool→Hp→Prop),Inv X pins σ H s→t σ H Q →
  wpAny (model X.prog X.w) X.A (forIn ifs true fun c r=>if r = true then do let ok ← isTrue c X.env (eval c X.env);pure (ForInStep.yield ok) else pure (ForInStep.yield r)) (TP X pins σ Q) X.xe s
def tYes:TT:=fun _ H Q=>Q true H
theorem Qdo:PTs X [] tYes:=fun _ _ _ H _ I h=>wpAny_tests_nil ⟨H,I,h⟩
theorem Qu2 {c:Expr} {t:TT} (h:PT X c t):PTs X [c] t:=fun pins s σ H Q I hw=>wpAny_tests_one (h pins s σ H Q I hw)
end
theorem thnF {α : Type} {t:Sem α} {Q Q' : α→Shared→Prop} {M:Model} {A:Around} {E:Value→Shared→Prop} {s:Shared} (h:wpAny M A t Q (fun _ _=>False) s) (hQ:∀ a s,Q a s→Q' a s):wpAny M A t Q' E s:=wpAny_mono h hQ fun _ _ z=>False.elim z
theorem Qjv {prog:Program} {w:World} {A:Around} {R:Result→Shared→Prop} {s:Shared} {elt target iter:Expr} {ifs:List Expr} {scope:Scope} {pos:Pos} {it acc:Value} {env:Env} (I:Nat→Shared→Prop)
  (turn:∀ n s,I n s→wpAny (model prog w) A (pyNext it) (fun r s₁=>match r with
   | none=>R (.ok .next) s₁
   | some v=>wpAny (model prog w) A (letOwnedTupleGo target it v) (fun _ s₁'=>wpAny (model prog w) A (assign target env v) (fun _ s₂ =>
     wpAny (model prog w) A (forIn ifs true fun c r=>if r = true then do let ok ← isTrue c env (eval c env);pure (ForInStep.yield ok) else pure (ForInStep.yield r)) (fun ok s₃ =>
      if ok = true then wpAny (model prog w) A (eval elt env) (fun x s₄ =>
       wpAny (model prog w) A (call (.builtin "list.append") [acc,x]) (fun _ s₅=>∃ m,m < n∧I m s₅) (notedBy (model prog w) A env fun e s'=>R (.error e) s') s₄) (notedBy (model prog w) A env fun e s'=>R (.error e) s') s₃
      else ∃ m,m < n∧I m s₃) (notedBy (model prog w) A env fun e s'=>R (.error e) s') s₂) (notedBy (model prog w) A env fun e s'=>R (.error e) s') s₁') (notedBy (model prog w) A env fun e s'=>R (.error e) s') s₁) (notedBy (model prog w) A env fun e s'=>R (.error e) s') s)
  (n:Nat) (h:I n s) :
  codeAny (model prog w) A (.compLoop (.ListComp elt [⟨target,iter,ifs,0⟩] scope pos) 0 it acc env) R s:=by
 refine codeAny_loop rfl I (fun n s hI=>?_) n h
 show wpAny _ A ((compTurn (.ListComp elt [⟨target,iter,ifs,0⟩] scope pos) 0 it acc env).onRaise (fun x=>do noteFrame x env;theTreesLotGoes x)) _ _ s
 refine wpAny_noted ?_
 rw [compTurn_list]
 refine wpAny_bind (wpAny_standAt (wpAny_bind (wpAny_mono (turn n s hI) (fun r s₁ h₁=>?_) fun _ _ h'=>h')))
 cases r with
 | none=>exact wpAny_pure h₁
 | some v =>
  refine wpAny_bind (wpAny_mono h₁ (fun _ s₁' h₁'=>?_) fun _ _ h'=>h')
  refine wpAny_bind (wpAny_mono h₁' (fun _ s₂ h₂=>wpAny_bind (wpAny_mono h₂ (fun ok s₃ h₃=>?_) fun _ _ h'=>h')) fun _ _ h'=>h')
  cases ok with
  | false=>exact wpAny_pure ⟨rfl,h₃⟩
  | true =>
   exact wpAny_bind (wpAny_bind (wpAny_mono h₃ (fun x s₄ h₄=>wpAny_bind (wpAny_mono h₄ (fun _ s₅ h₅=>wpAny_pure (wpAny_pure ⟨rfl,h₅⟩)) fun _ _ h'=>h')) fun _ _ h'=>h'))
section
variable {X : Cx}
def tLc (wi:TI) (g:TG) (tt:TT) (te:TE) (vs:List Nat):TE:=fun σ H Q=>wi σ H fun J H1=>∀ D,H1 D = none→∃ W:Nat→Nat→Hp→Prop,(∃ m,W 0 m (upd H1 D (.lst [])))∧∀ i m H,W i m H →
 (J.stop i H∧Q (.ref D) H) ∨ (J.go i H∧∃ Nx:Hp→Prop,(∀ H',Nx H'→∃ m',m' < m∧W (i + 1) m' H')∧∀ x H',J.yld i H x H'→g x (wipe σ vs) H' fun σ2 H2=>wipe σ2 vs = wipe σ vs∧tt σ2 H2 fun b H3 =>
  if b = true then te σ2 H3 fun y H4=>∃ acc,H4 D = some (.lst acc)∧acc.length < sizeLine∧Nx (upd H4 D (.lst (acc ++ [y]))) else Nx H3)
theorem Qpi {pins:List (Addr × Obj)} {s:Shared} {σ : St} {H:Hp} {Q:VK} {elt tg iter:Expr} {ifs:List Expr} {scope:Scope} {own:List (Str × Nat)} {pos pos':Pos} {wi:TI} {g:TG} {tt:TT} {te:TE} {use:Option (Value→Sem Unit)} {Qf:Value→Shared→Prop}
  (hc:X.calm = true) (hN:X.N.Nodup) (I:Inv X pins σ H s) (hi:PI X tg iter wi) (ok:Qqr X.N X.env.scope scope own)
  (hg:∀ (s:Shared) (H:Hp) (C:Addr) (cl:List (Str × Addr)) (fp:List Addr),PG (X.blk s H scope (compEnvC scope cl C X.env) fp) tg g) (ht:∀ (s:Shared) (H:Hp) (C:Addr) (cl:List (Str × Addr)) (fp:List Addr),PTs (X.blk s H scope (compEnvC scope cl C X.env) fp) ifs tt)
  (he:∀ (s:Shared) (H:Hp) (C:Addr) (cl:List (Str × Addr)) (fp:List Addr),PE (X.blk s H scope (compEnvC scope cl C X.env) fp) elt te) (hs:∀ x,foldedSetIterable iter X.env x = pure x)
  (h:tLc wi g tt te (own.map (·.2)) σ H Q)
  (hRR:∀ D C s' m H',Inv X pins σ H' s'→Q (.ref D) H'→s'.heap.Ns C m→FpOk X pins H' C→compPost (model X.prog X.w) X.A X.xe use Qf (.ref D) C (.ok .next) s') :
  wpAny (model X.prog X.w) X.A (comprehension (.ListComp elt [⟨tg,iter,ifs,0⟩] scope pos) scope X.env pos' (newList []) false (eval iter X.env) use) Qf X.xe s:=by
 have hfree:∀ y ∈ scope.names,y.2 = .free→∃ c,X.env.cells.lookup y.1 = some c:=fun y hy e=>by
  rcases ok.free y hy e with k | k
  ·exact I.ok.has _ (.inl k)
  ·exact I.ok.has _ (.inr k)
 refine wpAny_comprehension_free (use:=use) rfl hs (Qnu hfree) ok.kind (fun y hy e=>by rw [ok.uniq y hy,e])
  (thn (hi pins s σ H _ I h) fun xv s1 hx=>thn hx fun itv s2 h2=>?_)
 obtain ⟨it,fp,tn,J,H2,e,I2,T,st2,f2,q⟩:=h2
 subst e
 refine wpAny_newObj_type (Qkm ?_) (by show 0 ≤ sizeLine;decide)
 generalize hD:s2.heap.objs.size = D
 have hDn:H2 D = none:=I2.hok.fresh (Nat.le_of_eq hD)
 obtain ⟨W,⟨m0,w0⟩,turn⟩:=q D hDn
 -- the new list
 generalize hs3:({ s2 with heap:=s2.heap.push { cls:=.type "list",data:=.seq ([]:List Value).toArray } }:Shared) = s3
 have I3:Inv X pins σ (upd H2 D (.lst [])) s3:=by
  rw [← hs3]
  refine I2.laid (t':=s2.toks) (fun b o e=>Heap.get?_push_of_some _ e) (Nat.le_of_eq hD) ⟨Nat.zero_le _,[],0, .nil,?_⟩
  rw [← hD]
  exact Heap.get?_push_size _ rfl
 have h3:s3.heap = s2.heap.push { cls:=.type "list",data:=.seq ([]:List Value).toArray }:=by rw [← hs3]
 have sz:∀ b ∈ fp,b < s2.heap.objs.size:=fun b hb=>by
  obtain ⟨o,e,_⟩:=T.obj _ _ st2 b hb
  exact Heap.lt_size e
 have f3:∀ b ∈ fp,FpOk X pins (upd H2 D (.lst [])) b∧b < s3.heap.objs.size:=fun b hb=>by
  have hlt:=sz b hb
  refine ⟨⟨?_,(f2 b hb).2⟩,by rw [h3,Heap.size_push];exact Nat.lt_succ_of_lt hlt⟩
  rw [Qa6 (by rw [← hD];exact Nat.ne_of_lt hlt)]
  exact (f2 b hb).1
 have st3:tn 0 s3.heap:=T.keep _ _ _ st2 fun b _ o e=>by rw [h3];exact Heap.get?_push_of_some _ e
 have I4:=Qkz I3 ok hN f3
 have pg:=hg s3 (upd H2 D (.lst [])) s3.heap.objs.size (cellsFrom (s3.heap.objs.size + 1) scope.names (Qba X.env.cells scope.names [])) fp
 have pt:=ht s3 (upd H2 D (.lst [])) s3.heap.objs.size (cellsFrom (s3.heap.objs.size + 1) scope.names (Qba X.env.cells scope.names [])) fp
 have pe:=he s3 (upd H2 D (.lst [])) s3.heap.objs.size (cellsFrom (s3.heap.objs.size + 1) scope.names (Qba X.env.cells scope.names [])) fp
 show codeAny _ _ (.compStart (.ListComp elt [⟨tg,iter,ifs,0⟩] scope pos) 0 (.ref it) (.ref D) (compEnvC scope (cellsFrom (s3.heap.objs.size + 1) scope.names (Qba X.env.cells scope.names [])) s3.heap.objs.size X.env)) (compPost (model X.prog X.w) X.A X.xe use Qf (.ref D) s3.heap.objs.size) { s3 with heap:=pushCells (s3.heap.push { cls:=.type "dict",data:=.dict #[] }) scope.names }
 have nfp:∀ b ∈ fp,(upd H2 D (.lst [])) b = none:=fun b hb=>(f3 b hb).1.1
 generalize hce:compEnvC scope (cellsFrom (s3.heap.objs.size + 1) scope.names (Qba X.env.cells scope.names [])) s3.heap.objs.size X.env = ce at I4 pg pt pe ⊢
 have cL:ce.locals = s3.heap.objs.size:=by subst hce;rfl
 generalize hH3:upd H2 D (.lst []) = H3 at I3 I4 pg pt pe w0 nfp f3
 generalize hs4:({ s3 with heap:=pushCells (s3.heap.push { cls:=.type "dict",data:=.dict #[] }) scope.names }:Shared) = s4 at I4 ⊢
 have st4:tn 0 s4.heap:=T.keep _ _ _ st3 fun b _ o e=>by rw [← hs4];exact pushCells_keeps _ _ _ _ (Heap.get?_push_of_some _ e)
 have stat:∀ {σ':St} {H':Hp} {s':Shared},Inv (X.blk s3 H3 scope ce fp) [] σ' H' s'→(∀ b ∈ fp,H' b = none)→∀ b ∈ fp,FpOk (X.blk s3 H3 scope ce fp) [] H' b:=fun {σ' H' s'} I' hn b hb =>
  ⟨hn b hb,(I'.ok.exf b hb).1,I'.ok.exfs b hb, .inl hb,fun x c e=>(I'.ok.exf b hb).2 x c e,fun p hp=>absurd (show p ∈ ([]:List (Addr × Obj)) ++ [] from hp) (by simp)⟩
 have loop:codeAny (model X.prog X.w) X.A (.compLoop (.ListComp elt [⟨tg,iter,ifs,0⟩] scope pos) 0 (.ref it) (.ref D) ce) (compPost (model X.prog X.w) X.A X.xe use Qf (.ref D) s3.heap.objs.size) s4:=by
  refine Qjv (fun n s'=>∃ i H',Inv (X.blk s3 H3 scope ce fp) [] (wipe σ (own.map (·.2))) H' s'∧tn i s'.heap∧(∀ b ∈ fp,H' b = none)∧W i n H') ?_ m0 ⟨0,H3,I4,st4,nfp,w0⟩
  rintro n s5 ⟨i,H5,I5,st5,n5,w5⟩
  rcases turn i n H5 w5 with ⟨stop,qq⟩ | ⟨go,Nx,hNx,step⟩
  ·have td:=T.done (X.blk s3 H3 scope ce fp) rfl rfl rfl hc i [] s5 _ H5 (fun _ _=>False) I5 (stat I5 n5) st5 stop
   refine thnF td fun r s6 ⟨hr,I6⟩=>?_
   subst hr
   -- back in the def's context
   have I7:Inv X pins σ H5 s6:=I3.call' (ch:=fp) I6.os I6.base I6.hok I6.bare fun b hb=>⟨(f3 b hb).1.2.2.2.1,(f3 b hb).1.2.1,(f3 b hb).1.2.2.2.2.1,(f3 b hb).1.2.2.2.2.2⟩
   have nC:H5 s3.heap.objs.size = none:=by
    have z:H5 ce.locals = none:=I6.free
    rw [cL] at z
    exact z
   obtain ⟨m,hn,_⟩:=I6.loc
   have hn:s6.heap.Ns ce.locals m:=hn
   rw [cL] at hn
   exact hRR D s3.heap.objs.size s6 m H5 I7 qq hn (I3.fpOk (Nat.le_refl _) nC)
  ·have ti:=T.item (X.blk s3 H3 scope ce fp) rfl rfl rfl hc i [] s5 _ H5 (fun _ _=>False) I5 (stat I5 n5) st5 go
   refine thnF ti fun r s6 ⟨u,hr,h6⟩=>?_
   subst hr
   refine thnF h6 fun _ s7 ⟨x,H7,I7,r7,y7,st7,n7⟩=>?_
   have I7':=I7.pinned (stat I7 n7) (T.obj _ _ st7)
   refine thnF (pg _ s7 _ H7 x u _ I7' r7 (step x H7 y7)) fun _ s8 ⟨σ8,H8,I8,hw8,q8⟩=>?_
   refine thnF (pt _ s8 σ8 H8 _ I8 q8) fun b s9 ⟨H9,I9,q9⟩=>?_
   -- the turn's end
   have fin:∀ {s':Shared} {H':Hp},Inv (X.blk s3 H3 scope ce fp) ([] ++ Qj0 fp s7.heap) σ8 H' s'→Nx H'→∃ m,m < n∧∃ i H',Inv (X.blk s3 H3 scope ce fp) [] (wipe σ (own.map (·.2))) H' s'∧tn i s'.heap∧(∀ b ∈ fp,H' b = none)∧W i m H':=fun {s' H'} I' nx=>by
    obtain ⟨m',hm,w'⟩:=hNx H' nx
    have pin':∀ b ∈ fp,∀ o,s7.heap.get? b = some o→s'.heap.get? b = some o∧H' b = none:=fun b hb o e =>
     let z:=I'.pin (b,o) (List.mem_append_right _ (List.mem_append_right _ (Qf6 hb e)))
     ⟨z.1,z.2.1⟩
    have hl:(wipe σ (own.map (·.2))).length = σ8.length:=by rw [← hw8,Qeb]
    refine ⟨m',hm,i + 1,H',(I'.unpinned (pins:=[])).weak hl (fun j v e=>?_),T.keep _ _ _ st7 fun b hb o e=>(pin' b hb o e).1,fun b hb=>?_,w'⟩
    ·rw [← hw8] at e
     exact (Qfx e).1
    ·obtain ⟨o,e,_⟩:=T.obj _ _ st7 b hb
     exact (pin' b hb o e).2
   cases b with
   | false =>
    simp only [Bool.false_eq_true,if_false] at q9 ⊢
    exact fin I9 q9
   | true =>
    simp only [if_true] at q9 ⊢
    refine thnF (pe _ s9 σ8 H9 _ I9 q9) fun z s10 ⟨yv,H10,I10,r10,acc,hD10,hz10,nx⟩=>?_
    exact Qyi (X:=X.blk s3 H3 scope ce fp) I10 hD10 hz10 r10 fun s11 I11=>fin I11 nx
 exact codeAny_compStart_list loop (T.self X.A 0 _ _ _ st4 loop)
theorem Qnc {elt tg iter:Expr} {ifs:List Expr} {scope:Scope} {own:List (Str × Nat)} {pos:Pos} {wi:TI} {g:TG} {tt:TT} {te:TE} (hc:X.calm = true) (hN:X.N.Nodup) (hi:PI X tg iter wi) (ok:Qqr X.N X.env.scope scope own)
  (hg:∀ (s:Shared) (H:Hp) (C:Addr) (cl:List (Str × Addr)) (fp:List Addr),PG (X.blk s H scope (compEnvC scope cl C X.env) fp) tg g) (ht:∀ (s:Shared) (H:Hp) (C:Addr) (cl:List (Str × Addr)) (fp:List Addr),PTs (X.blk s H scope (compEnvC scope cl C X.env) fp) ifs tt)
  (he:∀ (s:Shared) (H:Hp) (C:Addr) (cl:List (Str × Addr)) (fp:List Addr),PE (X.blk s H scope (compEnvC scope cl C X.env) fp) elt te) (hs:∀ x,foldedSetIterable iter X.env x = pure x:=by intro _;rfl) :
  PE X (.ListComp elt [⟨tg,iter,ifs,0⟩] scope pos) (tLc wi g tt te (own.map (·.2))):=by
 intro pins s σ H Q I h
 rw [eval_ListComp]
 refine Qpi hc hN I hi ok hg ht he hs h fun D C s' m H' I' q hn f=>⟨m,hn,fun h'' sb=>?_⟩
 obtain ⟨f0,f1,f2,f3,f4,f5⟩:=f
 exact ⟨.ref D,H',I'.turned (t':=s'.toks) (fun b o hb e=>(sb.2 b hb).trans e) f0 f1 f3 f4 f5,rfl,q⟩
theorem Qi0 {i:Nat} {y:Str} {py:Pos} {elt tg iter:Expr} {ifs:List Expr} {scope:Scope} {own:List (Str × Nat)} {pos spos:Pos} {wi:TI} {g:TG} {tt:TT} {te:TE} (hc:X.calm = true) (hN:X.N.Nodup) (hy:X.N[i]? = some y) (hyl:X.env.scope.names.lookup y = some .local)
  (hsw:swapsWith (.ListComp elt [⟨tg,iter,ifs,0⟩] scope pos) (some (.Name y py)) spos.line X.env = pure true) (hi:PI X tg iter wi) (ok:Qqr X.N X.env.scope scope own)
  (hg:∀ (s:Shared) (H:Hp) (C:Addr) (cl:List (Str × Addr)) (fp:List Addr),PG (X.blk s H scope (compEnvC scope cl C X.env) fp) tg g) (ht:∀ (s:Shared) (H:Hp) (C:Addr) (cl:List (Str × Addr)) (fp:List Addr),PTs (X.blk s H scope (compEnvC scope cl C X.env) fp) ifs tt)
  (he:∀ (s:Shared) (H:Hp) (C:Addr) (cl:List (Str × Addr)) (fp:List Addr),PE (X.blk s H scope (compEnvC scope cl C X.env) fp) elt te) (hs:∀ x,foldedSetIterable iter X.env x = pure x:=by intro _;rfl) :
  PS X (.Assign [.Name y py] (.ListComp elt [⟨tg,iter,ifs,0⟩] scope pos) spos) (tAsg (tLc wi g tt te (own.map (·.2))) (Qpy i)):=by
 intro pins s σ H D I h
 rw [exec_Assign_Name_used _ _ _ _ hsw]
 refine wpAny_bind (wpAny_standAt (wpAny_bind ?_))
 show wpAny _ X.A (do let _ ← comprehension (.ListComp elt [⟨tg,iter,ifs,0⟩] scope pos) scope X.env (firstIterPos [⟨tg,iter,ifs,0⟩] pos) (newList []) false (eval iter X.env) (some (assign (.Name y py) X.env))) _ _ s
 have h:tLc wi g tt te (own.map (·.2)) σ H (fun x H1=>Qpy i x σ H1 D.nx):=h
 refine wpAny_bind (thn (Qpi (Qf:=fun _ s'=>SP X pins D .next s') hc hN I hi ok hg ht he hs h fun L C s' m H' I' q hn f=>?_) fun _ s' hq=>wpAny_pure (wpAny_pure hq))
 show wpAny _ _ (assign (.Name y py) X.env (.ref L)) _ _ _
 refine wpAny_assign_Name (Qim (v:=V.ref L) I' hN hy (.inl hyl) rfl (fun s2 I2 ⟨a,sb,ha⟩=>?_) (.inr hyl))
 obtain ⟨f0,f1,f2,f3,f4,f5⟩:=f
 have haC:C ≠ a:=by
  rcases ha with z | z
  ·rw [z];exact f1
  ·exact fun e=>f4 y a z e.symm
 refine ⟨m,hn.sameBut sb haC,fun h3 sb3=>?_⟩
 exact ⟨_,H',I2.turned (t':=s2.toks) (fun b o hb e=>(sb3.2 b hb).trans e) f0 f1 f3 f4 f5,q⟩
theorem Qk9 {elt:Expr} {gs:List Comprehension} {scope:Scope} {pos py:Pos} {y:Str} {l:Nat} {env:Env} (hk:env.scope.kind = .function) (hy:env.scope.names.lookup y = some .local) (hl:(py.line == pos.line) = true)
  (ha:(scope.names.any fun (n,k)=>n == y && (k == .local || k == .cell)) = false):swapsWith (.ListComp elt gs scope pos) (some (.Name y py)) l env = pure true:=by
 have ky:env.kindOf y = some .local:=hy
 have hb:env.blockKind = .function:=by unfold Env.blockKind;rw [hk];rfl
 unfold swapsWith
 simp only [hb,ky,ha,Expr.pos,hl]
 rfl
end
theorem Qdu {K:PySem.W.Frag} {a:Addr} {xs:List V} {g:TG} {tt:TT} {te:TE} {vs:List Nat} {σ : St} {H1:Hp} {D:Addr} {Qd:Hp→Prop} (Pv:Nat→Hp→Prop) (h0:Pv 0 (upd H1 D (.lst []))) (hl:∀ i H,i ≤ xs.length→Pv i H→SqL K H a xs)
  (hs:∀ i x H,xs[i]? = some x→Pv i H→g x (wipe σ vs) H fun σ2 H2=>wipe σ2 vs = wipe σ vs∧tt σ2 H2 fun b H3 =>
   if b = true then te σ2 H3 fun y H4=>∃ acc,H4 D = some (.lst acc)∧acc.length < sizeLine∧Pv (i + 1) (upd H4 D (.lst (acc ++ [y]))) else Pv (i + 1) H3) (hd:∀ H,Pv xs.length H→Qd H) :
  ∃ W:Nat→Nat→Hp→Prop,(∃ m,W 0 m (upd H1 D (.lst [])))∧∀ i m H,W i m H →
   ((Itl K a).stop i H∧Qd H) ∨ ((Itl K a).go i H∧∃ Nx:Hp→Prop,(∀ H',Nx H'→∃ m',m' < m∧W (i + 1) m' H')∧∀ x H',(Itl K a).yld i H x H'→g x (wipe σ vs) H' fun σ2 H2=>wipe σ2 vs = wipe σ vs∧tt σ2 H2 fun b H3 =>
    if b = true then te σ2 H3 fun y H4=>∃ acc,H4 D = some (.lst acc)∧acc.length < sizeLine∧Nx (upd H4 D (.lst (acc ++ [y]))) else Nx H3):=by
 refine ⟨fun i m H=>m = xs.length - i∧i ≤ xs.length∧Pv i H,⟨xs.length,by simp,Nat.zero_le _,h0⟩,?_⟩
 rintro i m H ⟨rfl,hi,p⟩
 have q:=hl i H hi p
 by_cases hlt:i < xs.length
 ·refine .inr ⟨⟨xs,xs[i],q,by simp [hlt]⟩,Pv (i + 1),fun H' p'=>⟨xs.length - (i + 1),by omega,rfl,hlt,p'⟩,fun x H' y=>?_⟩
  obtain ⟨e,y⟩:=y
  subst e
  exact hs i x _ (y xs q) p
 ·have e:i = xs.length:=by omega
  subst e
  exact .inl ⟨⟨xs,q,Nat.le_refl _⟩,hd H p⟩
def blkC (N:List Str) (sc scope:Scope) (own:List (Str × Nat)):Bool :=
 (match scope.kind with | .function=>true | _=>false) && (scope.names.all fun y=>decide (scope.names.lookup y.1 = some y.2)) && (own.all fun p=>decide (N[p.2]? = some p.1)) &&
  (scope.names.all fun y=>match y.2 with
   | .free=>(match sc.names.lookup y.1 with | some .cell=>true | some .free=>true | _=>false)
   | .local=>decide (y.1 ∈ own.map (·.1)) || decide (y.1 ∉ N)
   | .cell=>decide (y.1 ∈ own.map (·.1)) || decide (y.1 ∉ N)
   | _=>true)
theorem Qck {N:List Str} {sc scope:Scope} {own:List (Str × Nat)} (h:blkC N sc scope own = true):Qqr N sc scope own:=by
 unfold blkC at h
 simp only [Bool.and_eq_true,List.all_eq_true,decide_eq_true_eq] at h
 obtain ⟨⟨⟨h1,h2⟩,h3⟩,h4⟩:=h
 refine ⟨?_,h2,h3,fun y hy e=>?_,fun y hy e=>?_⟩
 ·split at h1
  ·assumption
  ·cases h1
 ·have q:=h4 y hy
  simp only [e] at q
  split at q <;> first | exact .inl (by assumption) | exact .inr (by assumption) | cases q
 ·have q:=h4 y hy
  rcases e with e | e <;> (simp only [e,Bool.or_eq_true,decide_eq_true_eq] at q;exact q)
end L2
namespace L2
open PySem PySem.Spec PyProof.Rows
section
variable {prog : Program} {w : World} {A : Around} {R : Result → Shared → Prop} {s : Shared} {elt t0 i0 t1 i1 : Expr} {ifs0 ifs1 : List Expr} {scope : Scope} {pos : Pos} {it acc : Value} {env : Env}
end
section
variable {X : Cx}
end
end L2
namespace L2
open PySem PySem.Spec PyProof.Rows
section
variable {κ : Type} [DecidableEq κ]
def valV (kvs:List (κ × V)) (k : κ):Option V:=(kvs.find? fun kv=>decide (kv.1 = k)).map (·.2)
def putK (kvs:List (κ × V)) (k : κ) (v:V):List (κ × V) :=
 if (kvs.any fun kv=>decide (kv.1 = k)) = true then kvs.map (fun kv=>if kv.1 = k then (kv.1,v) else kv) else kvs ++ [(k,v)]
theorem Qc3 {p : κ × V} {r:List (κ × V)} {k : κ} (e:p.1 = k):valV (p :: r) k = some p.2:=by simp [valV,List.find?_cons,e]
theorem Qc4 {p : κ × V} {r:List (κ × V)} {k : κ} (e : ¬ p.1 = k):valV (p :: r) k = valV r k:=by simp [valV,List.find?_cons,e]
theorem Qen (k : κ):∀ kvs:List (κ × V),(kvs.any fun kv=>decide (kv.1 = k)) = (valV kvs k).isSome
 | []=>rfl
 | p :: r=>by
  rw [List.any_cons]
  by_cases e:p.1 = k
  ·simp only [Qc3 e,decide_eq_true e,Bool.true_or,Option.isSome_some]
  ·rw [Qc4 e,decide_eq_false e,Bool.false_or];exact Qen k r
theorem Ql2 (k j : κ) (y:V):∀ kvs:List (κ × V),valV (kvs.map fun kv=>if kv.1 = k then (kv.1,y) else kv) j = (valV kvs j).map fun x=>if j = k then y else x
 | []=>rfl
 | p :: r=>by
  have ih:=Ql2 k j y r
  rw [List.map_cons]
  by_cases h:p.1 = k
  ·rw [if_pos h]
   by_cases e:p.1 = j
   ·rw [Qc3 (p:=(p.1,y)) e,Qc3 e,Option.map_some,if_pos (e.symm.trans h)]
   ·rw [Qc4 (p:=(p.1,y)) e,Qc4 e,ih]
  ·rw [if_neg h]
   by_cases e:p.1 = j
   ·rw [Qc3 (p:=p) e,Qc3 e,Option.map_some,if_neg (fun z=>h (e.trans z))]
   ·rw [Qc4 (p:=p) e,Qc4 e,ih]
theorem Qij (k j : κ) (y:V):∀ kvs:List (κ × V),valV kvs k = none→valV (kvs ++ [(k,y)]) j = if j = k then some y else valV kvs j
 | [],_=>by
  by_cases e:k = j
  ·rw [if_pos e.symm];exact Qc3 (p:=(k,y)) e
  ·rw [if_neg (fun z=>e z.symm)];exact Qc4 (p:=(k,y)) e
 | p :: r,hn=>by
  rw [List.cons_append]
  have hk : ¬ p.1 = k:=fun z=>by rw [Qc3 z] at hn;cases hn
  rw [Qc4 hk] at hn
  have ih:=Qij k j y r hn
  by_cases e:p.1 = j
  ·rw [Qc3 e,Qc3 e,if_neg (fun z=>hk (e.trans z))]
  ·rw [Qc4 e,Qc4 e,ih]
theorem Ql1 (kvs:List (κ × V)) (k j : κ) (y:V):valV (putK kvs k y) j = if j = k then some y else valV kvs j:=by
 unfold putK
 by_cases a:(kvs.any fun kv=>decide (kv.1 = k)) = true
 ·rw [if_pos a,Ql2]
  rw [Qen] at a
  by_cases e:j = k
  ·obtain ⟨x,hx⟩:=Option.isSome_iff_exists.mp a
   rw [if_pos e,e,hx,Option.map_some,if_pos rfl]
  ·rw [if_neg e]
   cases valV kvs j with
   | none=>rfl
   | some x=>rw [Option.map_some,if_neg e]
 ·rw [if_neg a]
  refine Qij k j y kvs ?_
  rw [Qen] at a
  cases q:valV kvs k with
  | none=>rfl
  | some x=>rw [q] at a;exact (a rfl).elim
theorem Qda (kvs:List (κ × V)) (k : κ) (v:V):(putK kvs k v).length ≤ kvs.length + 1:=by
 unfold putK
 split
 ·rw [List.length_map];omega
 ·rw [List.length_append,List.length_cons,List.length_nil];omega
theorem RelO.isSome_eq {o:Option V} {u:Option Value} (r:RelO o u):o.isSome = u.isSome:=by
 cases o with
 | none=>cases u with
  | none=>rfl
  | some _=>exact (show False from r).elim
 | some _=>cases u with
  | none=>exact (show False from r).elim
  | some _=>rfl
theorem RelO.getD {o:Option V} {u:Option Value} {d:V} {d':Value} (r:RelO o u) (rd:RelV d d'):RelV (o.getD d) (u.getD d'):=by
 cases o with
 | none=>cases u with
  | none=>exact rd
  | some _=>exact (show False from r).elim
 | some _=>cases u with
  | none=>exact (show False from r).elim
  | some _=>exact r
theorem KV.val {kvs:List (κ × V)} {vs:List (κ × Value)} (r:KV kvs vs) (k : κ):RelO (valV kvs k) (valueAt vs k):=by
 unfold KV at r
 induction r with
 | nil=>exact True.intro
 | @cons p q ps qs h t ih =>
  obtain ⟨h1,h2⟩:=h
  by_cases e:p.1 = k
  ·have e':q.1 = k:=h1.symm.trans e
   have b:valueAt (q :: qs) k = some q.2:=by simp [valueAt,List.find?_cons,e']
   rw [Qc3 e,b];exact h2
  ·have e' : ¬ q.1 = k:=fun z=>e (h1.trans z)
   have b:valueAt (q :: qs) k = valueAt qs k:=by simp [valueAt,List.find?_cons,e']
   rw [Qc4 e,b];exact ih
theorem KV.any {kvs:List (κ × V)} {vs:List (κ × Value)} (r:KV kvs vs) (k : κ):(kvs.any fun kv=>decide (kv.1 = k)) = vs.any fun kv=>decide (kv.1 = k):=by
 unfold KV at r
 induction r with
 | nil=>rfl
 | cons h t ih=>rw [List.any_cons,List.any_cons,ih,h.1]
theorem KV.repl {kvs:List (κ × V)} {vs:List (κ × Value)} (r:KV kvs vs) (k : κ) {y:V} {u:Value} (ry:RelV y u) :
  KV (kvs.map fun kv=>if kv.1 = k then (kv.1,y) else kv) (vs.map fun kv=>if kv.1 = k then (kv.1,u) else kv):=by
 unfold KV at r ⊢
 induction r with
 | nil=>exact .nil
 | @cons p q ps qs h t ih =>
  rw [List.map_cons,List.map_cons]
  refine .cons ?_ ih
  obtain ⟨h1,h2⟩:=h
  by_cases e:p.1 = k
  ·rw [if_pos e,if_pos (h1.symm.trans e)];exact ⟨h1,ry⟩
  ·rw [if_neg e,if_neg (fun z=>e (h1.trans z))];exact ⟨h1,h2⟩
theorem KV.put {kvs:List (κ × V)} {vs:List (κ × Value)} (r:KV kvs vs) (k : κ) {y:V} {u:Value} (ry:RelV y u):KV (putK kvs k y) (stored vs k u):=by
 unfold putK stored
 rw [r.any k]
 by_cases e:(vs.any fun kv=>decide (kv.1 = k)) = true
 ·rw [if_pos e,if_pos e];exact r.repl k ry
 ·rw [if_neg e,if_neg e];exact Paired.snoc r ⟨rfl,ry⟩
theorem KV.length {kvs:List (κ × V)} {vs:List (κ × Value)} (r:KV kvs vs):kvs.length = vs.length:=Paired.length r
end
theorem Qpn {P:Program} {w:World} {k:Key} {u:Value} (r:RelV (kV k) u):(Qbv P w).is k u = true:=by
 cases k with
 | inl i=>obtain ⟨t,e⟩:=(show ∃ t,u = Value.int i t from r);subst e;exact Qkp P w i t
 | inr x=>obtain ⟨t,e⟩:=(show ∃ t,u = Value.str x t from r);subst e;exact Qko P w x t
theorem Qjj {P:Program} {w:World}:∀ {ks:List Key} {us:List Value},Vals (ks.map kV) us→ItemsAre (Qbv P w) ks us
 | [],_,r=>by rw [List.map_nil] at r;cases r;exact .nil
 | k :: ks,_,r=>by
  rw [List.map_cons] at r
  cases r with
  | cons h t=>exact .cons (Qpn h) (Qjj t)
abbrev KT (H:Hp):List (List Key × V)→List (List Key × Addr × Value)→Prop:=Paired fun p q=>p.1 = q.1∧H q.2.1 = some (.tup (p.1.map kV))∧RelV p.2 q.2.2
theorem KT.val {H:Hp} {kvs:List (List Key × V)} {xs:List (List Key × Addr × Value)} (r:KT H kvs xs) (k:List Key):RelO (valV kvs k) ((atKey xs k).map (·.2)):=by
 induction r with
 | nil=>exact True.intro
 | @cons p q ps qs h t ih =>
  obtain ⟨h1,_,h2⟩:=h
  by_cases e:p.1 = k
  ·have e':q.1 = k:=h1.symm.trans e
   have b:atKey (q :: qs) k = some q.2:=by simp [atKey,List.find?_cons,e']
   rw [Qc3 e,b];exact h2
  ·have e' : ¬ q.1 = k:=fun z=>e (h1.trans z)
   have b:atKey (q :: qs) k = atKey qs k:=by simp [atKey,List.find?_cons,e']
   rw [Qc4 e,b];exact ih
theorem KT.repl {H:Hp} {kvs:List (List Key × V)} {xs:List (List Key × Addr × Value)} (r:KT H kvs xs) (k:List Key) {y:V} {u:Value} (ry:RelV y u) :
  KT H (kvs.map fun kv=>if kv.1 = k then (kv.1,y) else kv) (xs.map (putAt k u)):=by
 induction r with
 | nil=>exact .nil
 | @cons p q ps qs h t ih =>
  rw [List.map_cons,List.map_cons]
  refine .cons ?_ ih
  obtain ⟨h1,h2,h3⟩:=h
  unfold putAt
  by_cases e:p.1 = k
  ·rw [if_pos e,if_pos (h1.symm.trans e)];exact ⟨h1,h2,ry⟩
  ·rw [if_neg e,if_neg (fun z=>e (h1.trans z))];exact ⟨h1,h2,h3⟩
theorem KT.put {H:Hp} {kvs:List (List Key × V)} {xs:List (List Key × Addr × Value)} (r:KT H kvs xs) (k:List Key) {b:Addr} {y:V} {u:Value} (hb:H b = some (.tup (k.map kV))) (ry:RelV y u) :
  KT H (putK kvs k y) (storedH xs k b u):=by
 have e:(kvs.any fun kv=>decide (kv.1 = k)) = (atKey xs k).isSome:=by
  rw [Qen,(r.val k).isSome_eq,Option.isSome_map]
 unfold putK storedH
 rw [e]
 by_cases q:(atKey xs k).isSome = true
 ·rw [if_pos q,if_pos q];exact r.repl k ry
 ·rw [if_neg q,if_neg q];exact Paired.snoc r ⟨rfl,hb,ry⟩
theorem KT.keeps {H H':Hp} {kvs:List (List Key × V)} {xs:List (List Key × Addr × Value)} (r:KT H kvs xs) (ht:∀ b ys,H b = some (.tup ys)→H' b = some (.tup ys)):KT H' kvs xs :=
 Paired.mapP r fun _ _ z=>⟨z.1,ht _ _ z.2.1,z.2.2⟩
section
variable {P : Program} {w : World} {H : Hp} {h : Heap} {a : Addr}
theorem Qwr {u:HO} (ok:HOk P w H h) (e:Rd H a u):Qcg P w H h a u:=e.ok ok
theorem Qup {kvs:List (Key × V)} (ok:HOk P w H h) (e:Rd H a (.dK kvs)):kvs.length ≤ sizeLine∧(a == sysModules) = false∧∃ vs,KV kvs vs∧h.DictOf (Qbv P w) a vs :=
 show Qcg P w H h a (.dK kvs) from Qwr ok e
theorem dk_of {kvs:List (Key × V)} (ok:HOk P w H h) (e:H a = some (.dK kvs)):kvs.length ≤ sizeLine∧(a == sysModules) = false∧∃ vs,KV kvs vs∧h.DictOf (Qbv P w) a vs:=Qup ok (.inl e)
theorem Qln {ks:List Key} (ok:HOk P w H h) (e:H a = some (.tup (ks.map kV))):(tupleKind (Qbv P w)).is h ks a:=by
 obtain ⟨_,its,r,o,h1,h2,n,h3⟩:=(show Qcg P w H h a (.tup (ks.map kV)) from ok a _ e)
 exact ⟨o,its.toArray,n,h1,h2,h3,by simpa using Qjj r⟩
theorem Quo {kvs:List (List Key × V)} (ok:HOk P w H h) (e:Rd H a (.dT kvs)):kvs.length ≤ sizeLine∧(a == sysModules) = false ∧
  ∃ xs,KT H kvs xs∧h.DictOfH (tupleKind (Qbv P w)) a xs:=by
 obtain ⟨z,y,xs,r,o,es,ep,h1,h2,h3,h4,h5⟩:=(show Qcg P w H h a (.dT kvs) from Qwr ok e)
 refine ⟨z,y,xs,r,o,es,ep,h1,h2,h3,h4,fun x hx=>?_,h5⟩
 have all:∀ {l:List (List Key × V)} {m:List (List Key × Addr × Value)},KT H l m→∀ x ∈ m,(tupleKind (Qbv P w)).is h x.1 x.2.1:=by
  intro l m q
  induction q with
  | nil=>intro x hx;exact nomatch hx
  | @cons p q ps qs hq t ih =>
   intro x hx
   rcases List.mem_cons.mp hx with e | hx
   ·subst e
    exact Qln ok (by rw [← hq.1];exact hq.2.1)
   ·exact ih x hx
 exact all r x hx
theorem dt_of {kvs:List (List Key × V)} (ok:HOk P w H h) (e:H a = some (.dT kvs)):kvs.length ≤ sizeLine∧(a == sysModules) = false ∧
  ∃ xs,KT H kvs xs∧h.DictOfH (tupleKind (Qbv P w)) a xs:=Quo ok (.inl e)
end
def DGet (H:Hp) (a:Addr) (y:V) (r:Option V):Prop :=
 (∃ kvs k,Rd H a (.dK kvs)∧y = kV k∧r = valV kvs k) ∨ ∃ kvs k b,Rd H a (.dT kvs)∧y = .ref b∧H b = some (.tup (k.map kV))∧r = valV kvs k
def DPut (H:Hp) (a:Addr) (y v:V) (H':Hp):Prop :=
 (∃ kvs k,H a = some (.dK kvs)∧y = kV k∧kvs.length < sizeLine∧H' = upd H a (.dK (putK kvs k v))) ∨
 ∃ kvs k b,H a = some (.dT kvs)∧y = .ref b∧H b = some (.tup (k.map kV))∧kvs.length < sizeLine∧H' = upd H a (.dT (putK kvs k v))
theorem DGet.k {H:Hp} {a:Addr} {kvs:List (Key × V)} {k:Key} (e:H a = some (.dK kvs)):DGet H a (kV k) (valV kvs k):=.inl ⟨kvs,k, .inl e,rfl,rfl⟩
theorem DPut.k {H:Hp} {a:Addr} {kvs:List (Key × V)} {k:Key} {v:V} (e:H a = some (.dK kvs)) (hl:kvs.length < sizeLine):DPut H a (kV k) v (upd H a (.dK (putK kvs k v))):=.inl ⟨kvs,k,e,rfl,hl,rfl⟩
section
variable {X : Cx} {pins : List (Addr × Obj)} {σ : St} {H : Hp} {s : Shared} {a : Addr} {y v : V} {u r : Value} {o : Option V} {A : Around} {E : Value → Shared → Prop}
theorem Inv.big (I:Inv X pins σ H s):sysModules < s.heap.objs.size:=by
 have h:mainGlobals < s.heap.objs.size:=(I.mod.glob.keeps I.bk).lt
 exact Nat.lt_trans (by decide) h
theorem d_in {Q:Value→Shared→Prop} (hu:A.units + 1 < cLine) (I:Inv X pins σ H s) (g:DGet H a y o) (ry:RelV y u) (h:∀ s',Inv X pins σ H s'→Q (.bool o.isSome) s') :
  wpAny (model X.prog X.w) A (compareOp .In u (.ref a)) Q E s:=by
 rcases g with ⟨kvs,k,e,ey,l⟩ | ⟨kvs,k,b,e,ey,eb,l⟩
 ·subst ey
  obtain ⟨z,hd,vs,rel,dd⟩:=Qup I.hok e
  refine wpAny_in_of (Qpn ry) hd dd.mapOf ?_
  rw [← (rel.val k).isSome_eq,← l]
  exact h _ (I.tok _)
 ·subst ey
  cases (show u = Value.ref b from ry)
  obtain ⟨z,hd,xs,rel,dd⟩:=Quo I.hok e
  refine wpAny_in_heap (tupleKind_room_in1 hu) (Qln I.hok eb) hd dd ?_
  have q:=(rel.val k).isSome_eq
  rw [Option.isSome_map] at q
  rw [← q,← l]
  exact h _ (I.tok _)
theorem Quq {Q:Value→Shared→Prop} (hu:A.units + 1 < cLine) (I:Inv X pins σ H s) (g:DGet H a y o) (ry:RelV y u) (h:∀ s',Inv X pins σ H s'→Q (.bool (!o.isSome)) s') :
  wpAny (model X.prog X.w) A (compareOp .NotIn u (.ref a)) Q E s:=by
 rcases g with ⟨kvs,k,e,ey,l⟩ | ⟨kvs,k,b,e,ey,eb,l⟩
 ·subst ey
  obtain ⟨z,hd,vs,rel,dd⟩:=Qup I.hok e
  refine wpAny_notIn_of (Qpn ry) hd dd.mapOf ?_
  rw [← (rel.val k).isSome_eq,← l]
  exact h _ (I.tok _)
 ·subst ey
  cases (show u = Value.ref b from ry)
  obtain ⟨z,hd,xs,rel,dd⟩:=Quo I.hok e
  refine wpAny_notIn_heap (tupleKind_room_in1 hu) (Qln I.hok eb) hd dd ?_
  have q:=(rel.val k).isSome_eq
  rw [Option.isSome_map] at q
  rw [← q,← l]
  exact h _ (I.tok _)
theorem Qqc {h':Heap} {t':Nat} {ob:HO} (I:Inv X pins σ H s) (mu:Mut (H a)) (hs:Heap.SameBut a s.heap h') (he:∃ q,h'.get? a = some q) (new:Qcg X.prog X.w (upd H a ob) h' a ob) :
  Inv X pins σ (upd H a ob) { s with heap:=h',toks:=t' } :=
 I.write (x:=a) (e:=a) mu (.inl rfl) (fun b q hb z=>(hs.2 b hb).trans z) he new
theorem Qyc {P:Program} {w:World} {H':Hp} {h':Heap} {kvs:List (Key × V)} {vs:List (Key × Value)} (z:kvs.length ≤ sizeLine) (hd:(a == sysModules) = false) (rel:KV kvs vs) (dd:h'.DictOf (Qbv P w) a vs) :
  Qcg P w H' h' a (.dK kvs):=⟨z,hd,vs,rel,dd⟩
theorem Qqd {H':Hp} {Q:Unit→Shared→Prop} (hu:A.units + 1 < cLine) (I:Inv X pins σ H s) (g:DPut H a y v H') (ry:RelV y u) (rv:RelV v r) (h:∀ s',Inv X pins σ H' s'→Q () s') :
  wpAny (model X.prog X.w) A (setItem (.ref a) u r) Q E s:=by
 rcases g with ⟨kvs,k,e,ey,l,eH⟩ | ⟨kvs,k,b,e,ey,eb,l,eH⟩
 ·subst ey eH
  obtain ⟨z,hd,vs,rel,dd⟩:=dk_of I.hok e
  have hz:vs.length ≤ sizeLine:=by rw [← rel.length];exact z
  have hl:(putK kvs k v).length ≤ sizeLine:=by have:=Qda kvs k v;omega
  refine wpAny_setItem_pairs (hsz:=hz) (Qpn ry) dd fun h' dd' hs=>h _ ?_
  have he:∃ q,h'.get? a = some q:=let ⟨q,_,_,hq,_⟩:=dd'; ⟨q,hq⟩
  exact Qqc I (by rw [e];exact True.intro) hs he (Qyc hl hd (rel.put k rv) dd')
 ·subst ey eH
  cases (show u = Value.ref b from ry)
  obtain ⟨z,hd,xs,rel,dd⟩:=dt_of I.hok e
  have hz:xs.length ≤ sizeLine:=by rw [← Paired.length rel];exact z
  have hl:(putK kvs k v).length ≤ sizeLine:=by have:=Qda kvs k v;omega
  refine wpAny_setItem_heap (hsz:=hz) (tupleKind_room_in1 hu) (Qln I.hok eb) dd fun h' dd' hs=>h _ ?_
  obtain ⟨q,es,ep,hq,h2,h3,h4,_,h5⟩:=dd'
  refine Qqc I (by rw [e];exact True.intro) hs ⟨q,hq⟩ ⟨hl,hd,_,(rel.put k eb rv).keeps fun c ys ec=>?_,q,es,ep,hq,h2,h3,h4,h5⟩
  rw [Qa6 (Qc2 ec e (fun z=>nomatch z))]
  exact ec
end
section
variable {X : Cx} {pins : List (Addr × Obj)} {σ : St} {H : Hp} {s : Shared} {a : Addr} {kvs : List (Key × V)} {k : Key} {u : Value} {A : Around} {E : Value → Shared → Prop}
end
def tDIn (ty td:TE):TE:=fun σ H Q=>ty σ H fun y H1=>td σ H1 fun x H2=>∃ a o,x = .ref a∧DGet H2 a y o∧Q (.bl o.isSome) H2
def Qtr (ty td:TE):TE:=fun σ H Q=>ty σ H fun y H1=>td σ H1 fun x H2=>∃ a o,x = .ref a∧DGet H2 a y o∧Q (.bl (!o.isSome)) H2
def sDPut (td ty tv:TE):TS:=fun D σ H=>tv σ H fun v H1=>td σ H1 fun x H2=>ty σ H2 fun y H3=>∃ a H4,x = .ref a∧DPut H3 a y v H4∧D.nx σ H4
section
variable {X : Cx} {o i e value : Expr} {pos pos' tpos : Pos} {td ty tv : TE}
theorem Qt3 (hu:X.A.units + 1 < cLine) (hi:PE X i ty) (ho:PE X o td):PC X .In i o (tDIn ty td):=by
 intro pins s σ H Q I h
 refine thn (hi pins s σ H _ I h) fun iv s1 ⟨y,H1,I1,ry,q1⟩=>thn (ho pins s1 σ H1 _ I1 q1) fun u s2 ⟨x,H2,I2,rx,a,ov,ex,g,q2⟩=>?_
 subst ex
 obtain rfl:u = Value.ref a:=rx
 exact d_in hu I2 g ry fun s3 I3=>⟨.bl ov.isSome,H2,I3,rfl,q2⟩
theorem Qj2 (hu:X.A.units + 1 < cLine) (hi:PE X i ty) (ho:PE X o td):PC X .NotIn i o (Qtr ty td):=by
 intro pins s σ H Q I h
 refine thn (hi pins s σ H _ I h) fun iv s1 ⟨y,H1,I1,ry,q1⟩=>thn (ho pins s1 σ H1 _ I1 q1) fun u s2 ⟨x,H2,I2,rx,a,ov,ex,g,q2⟩=>?_
 subst ex
 obtain rfl:u = Value.ref a:=rx
 exact Quq hu I2 g ry fun s3 I3=>⟨.bl (!ov.isSome),H2,I3,rfl,q2⟩
theorem Qou (hu:X.A.units + 1 < cLine) (ho:PE X o td) (hi:PE X i ty) (hv:PE X value tv) (hs:swapsWith value (some (.Subscript o i pos')) pos.line X.env = pure false) :
  PS X (.Assign [.Subscript o i pos'] value pos) (sDPut td ty tv):=by
 intro pins s σ H D I h
 refine wpAny_Assign_Subscript (thn (hv pins s σ H _ I h) fun r s1 ⟨v,H1,I1,rv,q1⟩=>thn (ho pins s1 σ H1 _ I1 q1) fun u s2 ⟨x,H2,I2,rx,q2⟩=>thn (hi pins s2 σ H2 _ I2 q2) fun iv s3 ⟨y,H3,I3,ry,a,H4,ex,g,q3⟩=>?_) hs
 subst ex
 obtain rfl:u = Value.ref a:=rx
 exact Qqd hu I3 g ry rv fun s4 I4=>⟨σ,H4,I4,q3⟩
end
theorem Qs4 {P:Program} {w:World} {H:Hp} (h:Heap) (hb:sysModules < h.objs.size):Qcg P w H (h.push { cls:=.type "dict",data:=.dict #[] }) h.objs.size (.dK []) :=
 ⟨Nat.zero_le _,beq_eq_false_iff_ne.mpr (Ne.symm (Nat.ne_of_lt hb)),[], .nil,Heap.DictOf.new h⟩
def Qv3:TE:=fun _ H Q=>∀ p,H p = none→Q (.ref p) (upd H p (.dK []))
section
variable {X : Cx} {pos : Pos}
theorem Qld:PE X (.Dict [] [] pos) Qv3:=fun pins s σ H Q I h =>
 wpAny_Dict_empty ⟨.ref s.heap.objs.size,_,I.laid (a:=s.heap.objs.size) (o:=.dK []) (t':=s.toks) (fun _ _ q=>Heap.get?_push_of_some _ q) (Nat.le_refl _) (Qs4 s.heap I.big),rfl,h _ (I.hok.fresh (Nat.le_refl _))⟩
end
structure M2 (X:Cx) (o:Expr) (m:Str) (apos:Pos) (e f:Expr) (cpos:Pos):Prop where
 base:attributeBase o m X.env (eval o X.env) = eval o X.env
 few:((backTo cpos (starEach [e,f] X.env)).all (fun x=>!x.1) && (backToKw cpos (keywordEach [] X.env)).all (fun x=>x.1.isSome)
  && decide (([e,f]:List Expr).length + ([]:List Keyword).length + (if ([]:List Keyword).isEmpty then 0 else 1) < 30)) = true
 line:(apos.endLine == cpos.line) = true
 trees:backTo cpos (starEach [e,f] X.env) = [(false,eval e X.env),(false,eval f X.env)]
section
variable {X : Cx} {pins : List (Addr × Obj)} {σ : St} {H : Hp} {s : Shared} {a : Addr} {y d : V} {u r : Value} {o : Option V} {A : Around} {E : Value → Shared → Prop}
end
section
variable {X : Cx} {o e f : Expr} {apos cpos : Pos} {td ty tx : TE}
end
section
variable {X : Cx} {pins : List (Addr × Obj)} {σ : St} {H : Hp} {s : Shared} {a : Addr} {kvs : List (Key × V)} {A : Around} {E : Value → Shared → Prop}
end
section
variable {X : Cx} {pins : List (Addr × Obj)} {σ : St} {H : Hp} {s : Shared} {a : Addr} {y : V} {u : Value} {A : Around} {E : Value → Shared → Prop}
end
end L2
namespace L2
open PySem PySem.Spec PyProof.Rows
section
variable {prog : Program} {w : World} {A : Around} {E : Value → Shared → Prop}
end
section
variable {X : Cx}
end
end L2
namespace L2
open PySem PySem.Spec PyProof.Rows
theorem Qh3:bootBuiltins "reversed" = some (.type "reversed"):=by decide +kernel
section
variable {X : Cx} {pins : List (Addr × Obj)} {σ : St} {H : Hp} {s : Shared} {h' : Heap}
end
section
variable {X : Cx}
theorem Qoy {tg:Expr} {pins:List (Addr × Obj)} {σ : St} {H:Hp} {s:Shared} {R:It→Hp→Prop} {J:It} {tn:Nat→Heap→Prop} {tk:Nat} (I:Inv X pins σ H s) (o:Obj)
  (T:Turn X.prog X.w X.K tg J [s.heap.objs.size] s.heap.objs.size tn) (st:tn 0 (s.heap.push o)) (q:R J H):PIE X pins σ tg R (.ref s.heap.objs.size) { s with heap:=s.heap.push o,toks:=tk }:=by
 refine ⟨s.heap.objs.size,[s.heap.objs.size],tn,J,H,rfl,I.kept fun b ob e=>Heap.get?_push_of_some _ e,T,st,fun b hb=>?_,q⟩
 have e:b = s.heap.objs.size:=by simpa using hb
 subst e
 exact I.fpOk (Nat.le_refl _) (I.hok.fresh (Nat.le_refl _))
end
section
variable {X : Cx} {tg : Expr}
end
def Itv (K:PySem.W.Frag) (a:Addr) (n:Nat):It :=
 ⟨fun i H=>i < n∧∃ (xs:List V) (x:V),SqL K H a xs∧xs[n - 1 - i]? = some x,fun i H x H'=>H' = H∧∀ xs,SqL K H a xs→xs[n - 1 - i]? = some x,fun i _=>n ≤ i⟩
theorem Qqt {P:Program} {w:World} {K:PySem.W.Frag} {tg:Expr} (a it:Addr) (n:Nat):Turn P w K tg (Itv K a n) [it] it (fun i h=>i ≤ n∧h.IsRevIter it a ((n:Int) - 1 - (i:Nat))) where
 mem:=by simp
 obj:=fun i h st b hb=>by
  have e:b = it:=by simpa using hb
  subst e
  obtain ⟨_,o,e,c,d⟩:=st
  exact ⟨o,e,fun v z=>by rw [d] at z;cases z⟩
 keep:=fun i h h' st k=>⟨st.1,st.2.at fun o e=>k it (by simp) o e⟩
 item:=by
  intro X hP hw hK hc i pins s σ H E I hf st hg
  subst hP hw hK
  obtain ⟨hin,xs,x,hq,hx⟩:=hg
  obtain ⟨its,rv,p,hz⟩:=I.list hq
  obtain ⟨u,hu,ru⟩:=rv.get hx
  obtain ⟨f0,f1,f2,f3,f4,f5⟩:=hf it (by simp)
  obtain ⟨_,hit⟩:=st
  have e1:(n:Int) - 1 - ((i:Nat):Int) = ((n - 1 - i:Nat):Int):=by omega
  rw [e1] at hit
  refine wpAny_pyNext_rev_item hit p.isList (x:=u) (by simpa using hu) fun h' st' sb=>?_
  have e2:((n - 1 - i:Nat):Int) - 1 = (n:Int) - 1 - ((i + 1:Nat):Int):=by omega
  rw [e2] at st'
  have I1:Inv X pins σ H { s with heap:=h' }:=I.turned (t':=s.toks) (fun b o hb e=>(sb.2 b hb).trans e) f0 f1 f3 f4 f5
  obtain ⟨o,e,c,d⟩:=id st'
  exact ⟨u,rfl,Qrw (s:={ s with heap:=h' }) e c d (by decide) ⟨x,H,I1,ru,⟨rfl,fun ys hy=>by rw [I.list_inj hy hq];exact hx⟩,⟨hin,st'⟩,fun b hb=>(hf b hb).1⟩⟩
 done:=by
  intro X hP hw hK hc i pins s σ H E I hf st hg
  subst hP hw hK
  obtain ⟨f0,f1,f2,f3,f4,f5⟩:=hf it (by simp)
  obtain ⟨hin,hit⟩:=st
  have hge:n ≤ i:=hg
  have e1:(n:Int) - 1 - ((i:Nat):Int) = -1:=by omega
  rw [e1] at hit
  exact wpAny_pyNext_rev_end (I.ok.hd hc) hit fun h' eb=>⟨rfl,I.turned (t':=s.toks) (fun b o hb e=>eb b o hb e) f0 f1 f3 f4 f5⟩
 self:=fun A i s Q E st h=>wpAny_pyIter_revIter st.2 h
def iRev (K:PySem.W.Frag) (ta:TA):TI:=fun σ H R=>ta σ H fun vs H1=>∃ (a:Addr) (xs:List V),vs = [.ref a]∧SqL K H1 a xs∧R (Itv K a xs.length) H1
section
variable {X : Cx} {tg : Expr}
theorem Qkc {e:Expr} {ta:TA} {p pos:Pos} (hg:Gl X "reversed") (hm:X.mg "reversed" = none) (ha:PA X [e] ta) (hs:starEach [e] X.env = [(false,eval e X.env)]:=by rfl):PI X tg (.Call (.Name "reversed" p) [e] [] pos) (iRev X.K ta):=by
 intro pins s σ H R I h
 refine Call_ (Qje I hg hm Qh3 (PyProof.Rows.callWith_type1 (thn (ha pos pins s σ H _ I h) fun us s1 ⟨vs,H1,I1,r1,q1⟩=>?_) hs rfl))
 obtain ⟨a,xs,e,hq,q⟩:=q1
 subst e
 cases r1 with
 | cons r rr =>
  cases rr
  cases r
  obtain ⟨its,rv,p',hz⟩:=I1.list hq
  have hl:=rv.length
  have e1:((its.toArray.size:Nat):Int) - 1 = (xs.length:Int) - 1 - ((0:Nat):Int):=by simp only [List.size_toArray];omega
  refine call_reversed_list p'.isList (wpAny_pyIter_revIter (l:=a) (i:=((its.toArray.size:Nat):Int) - 1) ⟨_,Heap.get?_push_size _ rfl,rfl,rfl⟩ ?_)
  refine Qoy (tk:=s1.toks) I1 _ (Qqt a _ xs.length) ⟨Nat.zero_le _,?_⟩ q
  rw [← e1]
  exact ⟨_,Heap.get?_push_size _ rfl,rfl,rfl⟩
end
def Its (x:Str):It:=⟨fun i _=>i < x.cps.size,fun i H v H'=>H' = H∧∃ c,x.cps[i]? = some c∧v = .str ⟨#[c]⟩,fun i _=>x.cps.size ≤ i⟩
theorem Ql4 {P:Program} {w:World} {K:PySem.W.Frag} {tg:Expr} (it:Addr) (x:Str) (t:Tok) (ty:String) (hty:ty = "str_ascii_iterator" ∨ ty = "str_iterator") :
  Turn P w K tg (Its x) [it] it (fun i h=>h.IsStrIter it ty x t i) where
 mem:=by simp
 obj:=fun i h st b hb=>by
  have e:b = it:=by simpa using hb
  subst e
  obtain ⟨o,e,c,d⟩:=st
  exact ⟨o,e,fun v z=>by rw [d] at z;cases z⟩
 keep:=fun i h h' st k=>let ⟨o,ho,r⟩:=st; ⟨o,k it (by simp) o ho,r⟩
 item:=by
  intro X hP hw hK hc i pins s σ H E I hf st hg
  subst hP hw hK
  obtain ⟨f0,f1,f2,f3,f4,f5⟩:=hf it (by simp)
  have W:Walks X.prog X.w X.A it [it] [it] x.cps.size (SignAt x) (fun i h=>h.IsStrIter it ty x t i):=by
   rcases hty with e | e
   ·rw [e];exact Walks.strAscii (I.ok.hd hc) it x t
   ·rw [e];exact Walks.strWide (I.ok.hd hc) it x t
  have hno : ["enumerate", "zip", "dict_itemiterator", "dict_reverseitemiterator", "odict_iterator", "itertools.zip_longest", "itertools.pairwise"].contains ty = false:=by
   rcases hty with e | e
   ·rw [e];decide
   ·rw [e];decide
  refine W.item i s _ _ hg st fun v h' tk hv st' kk=>?_
  obtain ⟨c,u,hcx,rfl⟩:=hv
  have I1:Inv X pins σ H { s with heap:=h',toks:=tk }:=I.turned (fun b o hb e=>kk b o (by simpa using hb) e) f0 f1 f3 f4 f5
  obtain ⟨oi,e,cc,dd⟩:=id st'
  exact ⟨_,rfl,Qrw (s:={ s with heap:=h',toks:=tk }) e cc dd hno ⟨.str ⟨#[c]⟩,H,I1,⟨u,rfl⟩,⟨rfl,c,hcx,rfl⟩,st',fun b hb=>(hf b hb).1⟩⟩
 done:=by
  intro X hP hw hK hc i pins s σ H E I hf st hg
  subst hP hw hK
  obtain ⟨f0,f1,f2,f3,f4,f5⟩:=hf it (by simp)
  have hx:x.cps[i]? = none:=Array.getElem?_eq_none hg
  rcases hty with e | e
  ·rw [e] at st
   exact wpAny_pyNext_ascii_end (I.ok.hd hc) st hx fun h' eb=>⟨rfl,I.turned (t':=s.toks) (fun b o hb e=>eb b o hb e) f0 f1 f3 f4 f5⟩
  ·rw [e] at st
   exact wpAny_pyNext_wide_end (I.ok.hd hc) st hx fun h' eb=>⟨rfl,I.turned (t':=s.toks) (fun b o hb e=>eb b o hb e) f0 f1 f3 f4 f5⟩
 self:=fun A i s Q E st h=>by
  rcases hty with e | e
  ·rw [e] at st;exact wpAny_pyIter_striter_ascii st h
  ·rw [e] at st;exact wpAny_pyIter_striter_wide st h
def iStr (te:TE):TI:=fun σ H R=>te σ H fun v H1=>∃ x,v = .str x∧R (Its x) H1
theorem Qww {X:Cx} {tg e:Expr} {te:TE} (he:PE X e te):PI X tg e (iStr te):=by
 intro pins s σ H R I h
 refine thn (he pins s σ H _ I h) fun v s1 ⟨y,H1,I1,r1,x,ex,q⟩=>?_
 subst ex
 obtain ⟨t,rfl⟩:=r1
 cases ha:x.cps.all (· < 128)
 ·exact wpAny_pyIter_wide ha (Qoy (tk:=s1.toks) I1 _ (Ql4 _ x t "str_iterator" (.inr rfl)) ⟨_,Heap.get?_push_size _ rfl,rfl,rfl⟩ q)
 ·exact wpAny_pyIter_ascii ha (Qoy (tk:=s1.toks) I1 _ (Ql4 _ x t "str_ascii_iterator" (.inl rfl)) ⟨_,Heap.get?_push_size _ rfl,rfl,rfl⟩ q)
section
variable {prog : Program} {w : World} {A : Around} {E : Value → Shared → Prop} {s : Shared}
end
theorem Qr3 {k:Key} {u:Value} (h:Qjg k u = true):RelV (kV k) u:=by
 rcases Qb9 h with ⟨i,t,rfl,rfl⟩ | ⟨x,t,rfl,rfl⟩
 ·exact ⟨t,rfl⟩
 ·exact ⟨t,rfl⟩
section
variable {X : Cx} {pins : List (Addr × Obj)} {σ : St} {H : Hp} {s : Shared} {d : Addr} {o : Obj}
end
section
variable {P : Program} {w : World} {K : PySem.W.Frag} {tg : Expr} {d : Addr} {o : Obj} {es : Array DictEntry} {ep : Nat}
end
section
variable {X : Cx} {tg e : Expr} {td : TE} {apos cpos : Pos}
end
end L2
section
namespace Bits
open PySem PyProof.Rows
end Bits
end
section
namespace TL
open PySem PySem.Builtin PySem.Builtin.Str PySem.StrLaws
abbrev tl (x:Str):List Nat:=x.cps.toList
theorem Qil (x y:Str):tl (x ++ y) = tl x ++ tl y:=by
 show (x ++ y).cps.toList = _
 rw [Str.cps_append,Array.toList_append]
def joinL (S:List Nat):List (List Nat)→List Nat
 | []=>[]
 | [p]=>p
 | p :: q :: r=>p ++ (S ++ joinL S (q :: r))
theorem tl_join (y:Str):∀ parts:List Str,tl (Str.join y parts) = joinL (tl y) (parts.map tl)
 | []=>rfl
 | [_]=>rfl
 | x :: z :: r=>by
  show tl (x ++ y ++ Str.join y (z :: r)) = tl x ++ (tl y ++ joinL (tl y) ((z :: r).map tl))
  rw [Qil,Qil,tl_join y (z :: r),List.append_assoc]
theorem join_eq (y:Str) (parts:List Str):Txt.join y parts = Str.join y parts:=glued_eq_join y parts
end TL
end
namespace L2
open PySem PySem.Spec PyProof.Rows
theorem Qdm:∀ {ys:List Str} {us:List Value},Vals (ys.map V.str) us→StrsAre us ys
 | [],_, .nil=>.nil
 | y :: ys,_, .cons r t=>by
  obtain ⟨k,rfl⟩:=r
  exact .cons y k (Qdm t)
section
variable {X : Cx} {pins : List (Addr × Obj)} {σ : St} {H : Hp} {s : Shared} {Q : VK}
end
section
variable {X : Cx}
theorem Que:MtR X "str.join" (fun x xs H Q=>∃ a p,∃ ys:List Str,x = .str a∧xs = [.ref p]∧(SqL X.K H p (ys.map V.str) ∨ SqT X.K H p (ys.map V.str)) ∧
  (ys.map (·.length)).sum + ys.length * a.length ≤ 16777216∧Q (.str (Txt.join a ys)) H):=by
 intro pins s σ H x xs v us Q I rx rs h
 obtain ⟨a,p,ys,rfl,rfl,hp,hz,h⟩:=h
 obtain ⟨t,rfl⟩:=rx
 cases rs with
 | cons r1 rs =>
  cases rs
  cases r1
  rcases hp with hp | hp
  ·obtain ⟨its,r,⟨o,n,ho,hc,_,hd⟩,_⟩:=I.list hp
   exact PyProof.Rows.join_list (items:=its.toArray) ⟨o,ho,hc,n,hd⟩ (by rw [List.toList_toArray];exact Qdm r) hz fun t' k=>⟨.str _,H,I.tok k,⟨t',rfl⟩,h⟩
  ·obtain ⟨its,r,ht,_⟩:=I.tuple hp
   exact PyProof.Rows.join_tuple (items:=its.toArray) ht (by rw [List.toList_toArray];exact Qdm r) hz fun t' k=>⟨.str _,H,I.tok k,⟨t',rfl⟩,h⟩
theorem mt0 {id:String} {C:Str→Prop} {g:Str→V} (rule:∀ (a:Str) (t:Tok) (s:Shared) (Q:Value→Shared→Prop),C a→(∀ (u:Value) (k:Nat),RelV (g a) u→Q u { s with toks:=k }) →
  wpAny (model X.prog X.w) X.A (call (.builtin id) [.str a t]) Q X.xe s):MtR X id (fun x xs H Q=>∃ a,x = .str a∧xs = []∧C a∧Q (g a) H):=by
 intro pins s σ H x xs v us Q I rx rs h
 obtain ⟨a,rfl,rfl,hc,h⟩:=h
 obtain ⟨t,rfl⟩:=rx
 cases rs
 exact rule a t s _ hc fun u k r=>⟨g a,H,I.tok k,r,h⟩
theorem Qf5:MtR X "str.isdigit" (fun x xs H Q=>∃ a,x = .str a∧xs = []∧True∧Q (.bl (Txt.isdigit a)) H) :=
 mt0 (C:=fun _=>True) (g:=fun a=>.bl (Txt.isdigit a)) fun _ _ s _ _ h=>PySem.SC.isdigit (h _ s.toks rfl)
theorem Qnh:MtR X "str.isalnum" (fun x xs H Q=>∃ a,x = .str a∧xs = []∧True∧Q (.bl (Txt.isalnum a)) H) :=
 mt0 (C:=fun _=>True) (g:=fun a=>.bl (Txt.isalnum a)) fun _ _ s _ _ h=>PySem.SC.isalnum (h _ s.toks rfl)
theorem Qdx:Qh6 X (.type "int") (fun xs H Q=>∃ a n,xs = [.str a]∧PySem.intText? a = some n∧a.length ≤ 640∧Q (.int n) H):=by
 intro pins s σ H xs us Q I rs h
 obtain ⟨a,n,rfl,hn,hl,h⟩:=h
 cases rs with
 | cons r1 rs =>
  cases rs
  obtain ⟨t,rfl⟩:=r1
  exact PySem.W.KIN.call_text hn hl ⟨.int n,H,I.tok _,⟨_,rfl⟩,h⟩
end
section
variable {X : Cx} {o e : Expr} {to te : TE}
def tM0 (r:V→List V→Hp→VK→Prop) (to:TE):TE:=fun σ H Q=>to σ H fun x H1=>(∃ a,x = .str a)∧r x [] H1 Q
def tM1 (r:V→List V→Hp→VK→Prop) (to te:TE):TE:=fun σ H Q=>to σ H fun x H1=>(∃ a,x = .str a)∧te σ H1 fun y H2=>r x [y] H2 Q
theorem Qkd {id:String} {name:Str} {apos pos:Pos} {r:V→List V→Hp→VK→Prop} (slot:Slot "str" name id) (ty:typeOf (.builtin id) = pure (.type "method_descriptor")) (rule:MtR X id r) (ho:PE X o to)
  (hbase:attributeBase o name X.env (eval o X.env) = eval o X.env:=by rfl) (hline:(apos.endLine == pos.line) = true:=by rfl):PE X (.Call (.Attribute o name apos) [] [] pos) (tM0 r to):=by
 intro pins s σ H Q I h
 refine PySem.Call_method0 hbase hline (thn (ho pins s σ H _ I h) fun v s1 ⟨x,H1,I1,r1,q1⟩=>?_)
 obtain ⟨⟨a,rfl⟩,q1⟩:=q1
 obtain ⟨t,rfl⟩:=_root_.id r1
 exact ⟨"str",_,F.plainAttrs_str,slot,ty,typeIs_str _ _ _,(fun _ e=>nomatch e),Calls.callWith_builtin rfl (PySem.evalArgs_none (rule pins s1 σ H1 _ [] _ [] Q I1 r1 .nil q1))⟩
theorem pe_m1 {id:String} {name:Str} {apos pos:Pos} {r:V→List V→Hp→VK→Prop} (slot:Slot "str" name id) (ty:typeOf (.builtin id) = pure (.type "method_descriptor")) (rule:MtR X id r) (ho:PE X o to) (he:PE X e te)
  (hs:starEach [e] X.env = [(false,eval e X.env)]:=by rfl) (hbase:attributeBase o name X.env (eval o X.env) = eval o X.env:=by rfl) (hline:(apos.endLine == pos.line) = true:=by rfl) :
  PE X (.Call (.Attribute o name apos) [e] [] pos) (tM1 r to te):=by
 intro pins s σ H Q I h
 refine PySem.Call_method1 hbase hs hline (thn (ho pins s σ H _ I h) fun v s1 ⟨x,H1,I1,r1,q1⟩=>?_)
 obtain ⟨⟨a,rfl⟩,q1⟩:=q1
 obtain ⟨t,rfl⟩:=_root_.id r1
 refine ⟨"str",_,F.plainAttrs_str,slot,ty,typeIs_str _ _ _,(fun _ e=>nomatch e),Calls.callWith_builtin rfl (Calls.evalArgs_plain (Calls.spliced_cons ?_))⟩
 exact thn (he pins s1 σ H1 _ I1 q1) fun u s2 ⟨y,H2,I2,r2,q2⟩=>Calls.spliced_nil (rule pins s2 σ H2 _ [y] _ [u] Q I2 r1 (.cons r2 .nil) q2)
theorem Qke {apos pos:Pos} (ho:PE X o to) (he:PE X e te) (hs:starEach [e] X.env = [(false,eval e X.env)]:=by rfl) (hbase:attributeBase o "join" X.env (eval o X.env) = eval o X.env:=by rfl) (hline:(apos.endLine == pos.line) = true:=by rfl) :
  PE X (.Call (.Attribute o "join" apos) [e] [] pos) (tM1 (fun x xs H Q=>∃ a p,∃ ys:List Str,x = .str a∧xs = [.ref p]∧(SqL X.K H p (ys.map V.str) ∨ SqT X.K H p (ys.map V.str)) ∧
   (ys.map (·.length)).sum + ys.length * a.length ≤ 16777216∧Q (.str (Txt.join a ys)) H) to te) :=
 pe_m1 F.slot_str_join F.type_str_join Que ho he hs hbase hline
end
end L2
namespace L2
open PySem PySem.Spec PyProof.Rows
section
variable {X : Cx}
end
theorem IsPart.raw {v:Value} {o:Option Int} (p:IsPart v o):∃ l:Option (Int × Tok),v = partValue l∧l.map (·.1) = o:=by
 cases p with
 | none=>exact ⟨none,rfl,rfl⟩
 | int i t=>exact ⟨some (i,t),rfl,rfl⟩
def Qqg (n d:Nat):Option Int→Int
 | none=>(d:Int)
 | some i=>max 0 (min (if i < 0 then i + (n:Int) else i) (n:Int))
theorem Qlx (n d:Nat) (o:Option Int):Qqg n d o = ((HT.sIx n d o:Nat):Int):=by
 cases o with
 | none=>rfl
 | some v =>
  show max (0:Int) (min (if v < 0 then v + (n:Int) else v) (n:Int)) = (((if v < 0 then (v + (n:Int)).toNat else min v.toNat n):Nat):Int)
  by_cases hv:v < 0
  ·simp only [if_pos hv]
   omega
  ·simp only [if_neg hv]
   omega
theorem Qol (a b:Option Int) (n:Nat):Builtin.Str.strSliceIndices a b 1 n = sliceRange (Qqg n 0 a) (Qqg n n b) 1:=by
 have h1:((1:Int) > 0) = True:=by simp
 cases a <;> cases b <;> first
  | rfl
  | (simp only [Builtin.Str.strSliceIndices,Qqg,h1,if_true];rfl)
  | simp [Builtin.Str.strSliceIndices,Qqg]
theorem sidx (a b:Option Int) (n:Nat):Builtin.Str.strSliceIndices a b 1 n = (List.range (HT.sIx n n b - HT.sIx n 0 a)).map (fun k=>HT.sIx n 0 a + k):=by
 rw [Qol,Qlx,Qlx]
 generalize HT.sIx n 0 a = p
 generalize HT.sIx n n b = q
 simp only [sliceRange,show ((1:Int) > 0) = True from by simp,if_true]
 by_cases hlt:(p:Int) < q
 ·have e3:(((q:Int) - p + 1 - 1) / 1).toNat = q - p:=by first | omega | (simp;done) | (simp;omega)
  simp only [hlt,if_true,e3]
  refine List.map_congr_left fun k _=>?_
  omega
 ·have:q - p = 0:=by omega
  simp [hlt,this]
def cutS (z:Str) (lo hi:Option Int):Str :=
 ⟨((z.cps.toList.drop (HT.sIx z.length 0 lo)).take (HT.sIx z.length z.length hi - HT.sIx z.length 0 lo)).toArray⟩
theorem Qeo (z:Str) (lo hi:Option Int):PySem.StrLaws.sliceText z lo hi = cutS z lo hi:=by
 have h1:HT.sIx z.length 0 lo ≤ z.length:=HT.sIx_le _ _ (Nat.zero_le _) _
 have h2:HT.sIx z.length z.length hi ≤ z.length:=HT.sIx_le _ _ (Nat.le_refl _) _
 have hp:HT.sIx z.length 0 lo ≤ max (HT.sIx z.length 0 lo) (HT.sIx z.length z.length hi):=Nat.le_max_left _ _
 have hq:max (HT.sIx z.length 0 lo) (HT.sIx z.length z.length hi) ≤ z.length:=Nat.max_le.mpr ⟨h1,h2⟩
 have hd:max (HT.sIx z.length 0 lo) (HT.sIx z.length z.length hi) - HT.sIx z.length 0 lo = HT.sIx z.length z.length hi - HT.sIx z.length 0 lo:=by omega
 have e:Builtin.Str.strSliceIndices lo hi 1 z.length =
   Builtin.Str.strSliceIndices (some ((HT.sIx z.length 0 lo:Nat):Int)) (some ((max (HT.sIx z.length 0 lo) (HT.sIx z.length z.length hi):Nat):Int)) 1 z.length:=by
  rw [PySem.StrLaws.strSliceIndices_plain hp hq,hd,sidx]
 have e2:PySem.StrLaws.sliceText z lo hi =
   PySem.StrLaws.sliceText z (some ((HT.sIx z.length 0 lo:Nat):Int)) (some ((max (HT.sIx z.length 0 lo) (HT.sIx z.length z.length hi):Nat):Int)):=by
  unfold PySem.StrLaws.sliceText
  rw [e]
 rw [e2,PySem.StrLaws.sliceText_nat z hp hq,hd]
 rfl
theorem Qkx (z:Str) (lo hi:Option Int):(cutS z lo hi).length ≤ z.length:=by
 show (((z.cps.toList.drop (HT.sIx z.length 0 lo)).take (HT.sIx z.length z.length hi - HT.sIx z.length 0 lo)).toArray).size ≤ z.cps.size
 rw [List.size_toArray,List.length_take,List.length_drop,Array.length_toList]
 omega
def rSlS:V→Option Int→Option Int→Hp→VK→Prop:=fun x lo hi H Q=>∃ z,x = .str z∧z.length ≤ sizeLine∧Q (.str (cutS z lo hi)) H
theorem Qh9 {X:Cx}:SlR X rSlS:=by
 intro pins s σ H x v vl vu lo hi sl Q I rx hs pl pu h
 obtain ⟨z,rfl,hz,q⟩:=h
 obtain ⟨t,rfl⟩:=rx
 obtain ⟨os,hos,hcs,hds⟩:=hs
 obtain ⟨l,rfl,rfl⟩:=IsPart.raw pl
 obtain ⟨u,rfl,rfl⟩:=IsPart.raw pu
 refine ⟨"str",_,F.slot_str_getitem.lookup,typeIs_str _ _ _,?_⟩
 refine wpAny_getItem_str_slice (l:=l) (u:=u) (st:=none) ⟨os,hos,hcs,hds⟩ rfl ?_
 have hl:(PySem.StrLaws.sliceText z (l.map (·.1)) (u.map (·.1))).length ≤ sizeLine:=by
  rw [Qeo]
  exact Nat.le_trans (Qkx z _ _) hz
 rw [← Qeo] at q
 unfold PySem.StrLaws.sliceText at q hl
 show Made.post (if ((1:Int) == 1 && (Builtin.Str.strSliceIndices (l.map (·.1)) (u.map (·.1)) 1 z.length).length == z.length) = true then Made.val (.str z t)
  else Made.str ⟨((Builtin.Str.strSliceIndices (l.map (·.1)) (u.map (·.1)) 1 z.length).filterMap (z.cps[·]?)).toArray⟩) (EP X pins σ Q) s
 by_cases c:((1:Int) == 1 && (Builtin.Str.strSliceIndices (l.map (·.1)) (u.map (·.1)) 1 z.length).length == z.length) = true
 ·rw [if_pos c] at q ⊢
  exact ⟨.str z,H,I,⟨t,rfl⟩,q⟩
 ·rw [if_neg c] at q hl ⊢
  exact ⟨hl, .str _,H,I.tok _,⟨_,rfl⟩,q⟩
end L2
namespace Att
open PySem PySem.W PySem.Calls PyProof.Rows
section
variable {prog : Program} {w : World} {A : Around} {E : Value → Shared → Prop} {s : Shared} {K : Frag}
end
end Att
namespace L2
open PySem PySem.Spec PyProof.Rows
end L2
namespace L2
open PySem PySem.Spec PyProof.Rows
abbrev KOf {K:PySem.W.Frag} {h:Heap} (_:K.In h):PySem.W.Frag:=K
end L2
/- THE LAST THEOREM (shape; LID,My.* are yours):
   My.Adr: a structure of the addresses that your layer names (classes,functions); My.Txt K t: a structure (Prop) of the equations over K;
   My.Qo2 : {K} {implicit addresses ..} (e1:nsIn K mainGlobals "law" = some (some (.ref f))) (e2:K.lookup f = some ⟨oc,od, .func (fnOf "law" "law" params body scope dV kV doc pm an cdv ct),sl⟩) (e3:codeIn K cdv "law" = true) .. : ∃ t,My.Txt K t
set_option maxRecDepth 100000 in
set_option maxHeartbeats 0 in
theorem PySem.Challenge.cw_LID_holds:PySem.Challenge.rw_LID.Holds:=by
 w_on;o_law;k_head; (case hw=>w_witness2)
 k_fill
 refine L2.walk_of (l:=PySem.Challenge.rw_LID) (n:=63) (k:=40) (x := "script") (CX:=fun w=>..) (sp:=fun _=>My.sp_law) rfl (by decide) rfl ⟨rfl,by decide,by decide⟩ (fun w h Y=>PySem.W.kIn_of Y) ?F ?S ?C
 case F =>
  intro w mg fa h KX G hmg
  have T:∃ t,My.Txt (L2.KOf KX) t:=by
   dsimp only [L2.KOf]                          -- K must stand as «<heap const> w.params» for k_is
   refine' My.Qo2 ?e1 ?e2 ?e3 ..
   (case e1=>PySem.W.k_is)                    -- in the order: a name -> its address -> its object -> its parts
   (case e2=>PySem.W.k_is)
   ..
  obtain ⟨t,T⟩:=T
  have e0:=hmg.symm.trans (PySem.W.mg_of KX G T.law)
  cases e0                                       -- fa is the law's own address
  exact ⟨_,fun s u=>.of_eq rfl,fun base kb nb=>My.law_fn T kb nb⟩     -- if «.of_eq rfl» comes too early: refine' ⟨_,?b,fun base kb nb=>My.law_fn T kb nb⟩;exact fun s u=>.of_eq rfl
 case S=>exact fun w H a ns hl hO hS=>..
 case C=>exact ..
(the tactic k_is has no namespace: write k_is) -/
namespace L2
open PySem PySem.Spec PyProof.Rows
def Qar (s:Stmt) (j:Nat):Stmt:=match s with
 | .ClassDef _ _ _ body _ _ _ _ _ _ _=>body.getD j (.Pass ⟨0,0,0,0⟩)
 | _=>.Pass ⟨0,0,0,0⟩
def Qa9 (s:Stmt):Arguments:=match s with
 | .FunctionDef _ a _ _ _ _ _ _ _ _=>a
 | _=>{ posonlyargs:=[],args:=[],vararg:=none,kwonlyargs:=[],kw_defaults:=[],kwarg:=none,defaults:=[] }
def Qa8 (s:Stmt):List Stmt:=match s with
 | .FunctionDef _ _ b _ _ _ _ _ _ _=>b
 | _=>[]
def Qa1 (s:Stmt):Scope:=match s with
 | .FunctionDef _ _ _ _ _ _ sc _ _ _=>sc
 | _=>{ kind:=.function,names:=[],isGenerator:=false,isCoroutine:=false }
abbrev CX0:CXT:=fun _ _ _ _ _ _=>False
abbrev E0:XK:=fun _ _ _=>False
theorem Qam {X:Cx}:Qcr CX0 X E0:=fun _ _ _ _ _ _ _ h=>h.elim
structure Fun (K:PySem.W.Frag) (x qual:Str) (st:Stmt) (f:Addr) (fd:FuncData):Prop where
 ex:∃ (oc:Value) (od:Option Addr) (kV doc pm:Value) (an:Option Addr) (cdv ct:Value) (osl:Array (Option Value)),
  fd = PySem.W.fnOf x qual (Qa9 st) (Qa8 st) (Qa1 st) .none kV doc pm an cdv ct∧K.lookup f = some ⟨oc,od, .func fd,osl⟩∧PySem.W.codeIn K cdv qual = true
 kp:PySem.W.keepIn K (.ref f) = true
section
variable {P : Program} {w : World} {K : PySem.W.Frag} {mg : Str → Option Value} {base : Heap}
theorem Fun.ok {x qual:Str} {st:Stmt} {f:Addr} {fd:FuncData} {N ps:List Str} {k:Nat} {sp:Sp} (F:Fun K x qual st f fd) (S:Qaa N ps (Qa1 st)) (len:∀ vs H Q E,sp vs H Q E→vs.length = ps.length)
  (hbody:∀ (cdv:Value) (A:Around) (outer:List Env) (s:Shared) (H:Hp) (vs:List V) (Q:VK) (E:XK),Room k (A.deeper (envOfC qual (Qa1 st) s.heap.objs.size f cdv))→sp vs H Q E →
   ∃ t,PSs (cxOf CX0 P w K mg base N qual (Qa1 st) f cdv A outer s H E).nox (Qa8 st) t∧t { nx:=fun _ H'=>Q .non H',rt:=Q } (start N vs) H):FnOk P w K mg base CX0 (k + 1) f fd ps sp:=by
 obtain ⟨oc,od,kV,doc,pm,an,cdv,ct,osl,rfl,lk,hcd⟩:=F.ex
 refine Qy9 lk hcd S len fun A outer s H vs Q E hr hsp=>?_
 obtain ⟨t,h,q⟩:=hbody cdv A outer s H vs Q E hr hsp
 exact ⟨t,h.nox,q⟩
theorem Fun.binds {x qual:Str} {st:Stmt} {f:Addr} {fd:FuncData} {ps:List Str} (F:Fun K x qual st f fd)
  (h:∀ (kV doc pm:Value) (an:Option Addr) (cdv ct:Value) (us:List Value),us.length = ps.length→bindArgs (PySem.W.fnOf x qual (Qa9 st) (Qa8 st) (Qa1 st) .none kV doc pm an cdv ct) ⟨us,[]⟩ = pure (ps.zip us)):Qal K fd ps []:=by
 obtain ⟨oc,od,kV,doc,pm,an,cdv,ct,osl,rfl,lk,hcd⟩:=F.ex
 exact .all (h kV doc pm an cdv ct)
theorem Qaf {x qual:Str} {st:Stmt} {f:Addr} {oc:Value} {od an:Option Addr} {osl:Array (Option Value)} {kV doc pm cdv ct:Value} (l:K.lookup f = some ⟨oc,od, .func (PySem.W.fnOf x qual (Qa9 st) (Qa8 st) (Qa1 st) .none kV doc pm an cdv ct),osl⟩)
  (c:PySem.W.codeIn K cdv qual = true) (k:PySem.W.keepIn K (.ref f) = true):Fun K x qual st f (PySem.W.fnOf x qual (Qa9 st) (Qa8 st) (Qa1 st) .none kV doc pm an cdv ct):=⟨⟨oc,od,kV,doc,pm,an,cdv,ct,osl,rfl,l,c⟩,k⟩
end
section
variable {X : Cx}
theorem pv (i:Nat) {x:Str} {pos:Pos} (hN:X.N[i]? = some x:=by rfl) (hv:Vis X.env.scope x:=by first | exact Or.inl rfl | exact Or.inr (Or.inl rfl) | exact Or.inr (Or.inr rfl)) (hd:(x == ("__debug__" : Str)) = false:=by decide)
  (hcd:(x == ("__classdict__" : Str)) = false:=by decide):PE X (.Name x pos) (tVar i):=Qt2 hN hv hd hcd
end
theorem iteF {A B:Prop} (h:B):if false = true then A else B:=by
 rw [if_neg Bool.false_ne_true]
 exact h
theorem iteT {A B:Prop} (h:A):if true = true then A else B:=by
 rw [if_pos rfl]
 exact h
def Same (H H':Hp):Prop:=∀ b o,H b = some o→H' b = some o
theorem Same.trans {H H1 H2:Hp} (a:Same H H1) (b:Same H1 H2):Same H H2:=fun c o h=>b c o (a c o h)
theorem Same.free {H H':Hp} (e:Same H H') {l:Addr} (h:H' l = Option.none):H l = Option.none:=by
 cases q:H l with
 | none=>rfl
 | some o =>
  rw [e l o q] at h
  cases h
theorem Same.seq {K:PySem.W.Frag} {H H':Hp} {a:Addr} {xs:List V} (e:Same H H') (h:SqL K H a xs):SqL K H' a xs:=by
 rcases h with (h | ⟨o,h⟩) | h
 ·exact .inl (.inl (e _ _ h))
 ·exact .inl (.inr ⟨o,e _ _ h⟩)
 ·exact .inr h
section
variable {κ : Type} [DecidableEq κ]
end
end L2
end
section
namespace L2
open PySem PySem.Spec PyProof.Rows
open PySem.W (WData Codec OpenSpec Well WellAll ReadsW ReadsAllW)
mutual
inductive Dw (K:PySem.W.Frag) (H:Hp):V→WData→Prop
 | non:Dw K H .non .none
 | bl (b:Bool):Dw K H (.bl b) (.bool b)
 | int (i:Int):Dw K H (.int i) (.int i)
 | str (x:Str):Dw K H (.str x) (.str x)
 | byt (b:Array UInt8):Dw K H (.byt b) (.bytes b.toList)
 | lst {a:Addr} {xs:List V} {ds:List WData}:SqL K H a xs→Qfr K H xs ds→Dw K H (.ref a) (.list ds)
 | tup {a:Addr} {xs:List V} {ds:List WData}:SqT K H a xs→Qfr K H xs ds→Dw K H (.ref a) (.tuple ds)
inductive Qfr (K:PySem.W.Frag) (H:Hp):List V→List WData→Prop
 | nil:Qfr K H [] []
 | cons {v:V} {vs:List V} {d:WData} {ds:List WData}:Dw K H v d→Qfr K H vs ds→Qfr K H (v :: vs) (d :: ds)
end
theorem Qq6 {K:PySem.W.Frag} {H:Hp}:∀ ns:List Int,Qfr K H (ns.map V.int) (ns.map WData.int)
 | []=>.nil
 | n :: r=>.cons (.int n) (Qq6 r)
theorem Qps {K:PySem.W.Frag} {H:Hp}:∀ (ns:List Int) (xs:List V),Qfr K H xs (ns.map WData.int)→xs = ns.map V.int
 | [],xs,h=>by
  cases h
  rfl
 | n :: r,xs,h=>by
  cases h with
  | cons h1 h2 =>
   cases h1
   rw [Qps r _ h2] <;> rfl
section
variable {P : Program} {w : World} {K : PySem.W.Frag} {H : Hp} {h : Heap} {R : PySem.W.WRecords} {cl : Str → Option Addr}
theorem Qv8 {a:Addr} {xs:List V} (hok:HOk P w H h) (KX:K.In h) (q:SqL K H a xs):∃ (its:List Value) (o:Obj) (n:Nat),Vals xs its∧h.get? a = some o∧o.cls = .type "list" ∧ o.data = .seq its.toArray n:=by
 rcases q with q | ⟨o,its,n,e,hc,_,hd,_,hv⟩
 ·obtain ⟨_,its,n,hv,e⟩:=(show Qcg P w H h a (.lst xs) from q.ok hok)
  exact ⟨its,_,n,hv,e,rfl,rfl⟩
 ·exact ⟨its.toList,o,n,hv,KX _ _ e,hc,by simp [hd]⟩
theorem Qv7 {a:Addr} {xs:List V} (hok:HOk P w H h) (KX:K.In h) (q:SqT K H a xs):∃ (its:List Value) (o:Obj) (n:Nat),Vals xs its∧h.get? a = some o∧o.cls = .type "tuple" ∧ o.data = .seq its.toArray n:=by
 rcases q with q | ⟨o,its,n,e,hc,hd,_,hv⟩
 ·obtain ⟨_,its,hv,o,e,hc,n,hd⟩:=(show Qcg P w H h a (.tup xs) from q.ok hok)
  exact ⟨its,o,n,hv,e,hc,hd⟩
 ·exact ⟨its.toList,o,n,hv,KX _ _ e,hc,by simp [hd]⟩
mutual
theorem Dw.reads (hok:HOk P w H h) (KX:K.In h):∀ (d:WData) (v:V) (u:Value),Dw K H v d→RelV v u→∃ as,ReadsW R cl h u d as
 | .none,_,_,x,r=>by
  cases x
  cases r
  exact ⟨_,ReadsW.none⟩
 | .bool b,_,_,x,r=>by
  cases x
  cases r
  exact ⟨_,ReadsW.bool b⟩
 | .int i,_,_,x,r=>by
  cases x
  obtain ⟨t,rfl⟩:=r
  exact ⟨_,ReadsW.int i t⟩
 | .str s,_,_,x,r=>by
  cases x
  obtain ⟨t,rfl⟩:=r
  exact ⟨_,ReadsW.str s t⟩
 | .bytes b,_,_,x,r=>by
  cases x
  obtain ⟨t,rfl⟩:=r
  exact ⟨_,ReadsW.bytes _ t⟩
 | .list ds,_,_,x,r=>by
  cases x with
  | lst hs ha =>
   cases r
   obtain ⟨its,o,n,rv,ho,hc,hd⟩:=Qv8 hok KX hs
   obtain ⟨as,hr⟩:=Dw.readsAll hok KX ds _ its ha rv
   exact ⟨_,ReadsW.list ho hc hd hr⟩
 | .tuple ds,_,_,x,r=>by
  cases x with
  | tup hs ha =>
   cases r
   obtain ⟨its,o,n,rv,ho,hc,hd⟩:=Qv7 hok KX hs
   obtain ⟨as,hr⟩:=Dw.readsAll hok KX ds _ its ha rv
   exact ⟨_,ReadsW.tuple ho hc hd hr⟩
 | .float _,_,_,x,_=>by cases x
 | .dict _,_,_,x,_=>by cases x
 | .bytearray _,_,_,x,_=>by cases x
 | .set _,_,_,x,_=>by cases x
 | .frozenset _,_,_,x,_=>by cases x
 | .obj _ _,_,_,x,_=>by cases x
theorem Dw.readsAll (hok:HOk P w H h) (KX:K.In h):∀ (ds:List WData) (vs:List V) (us:List Value),Qfr K H vs ds→Vals vs us→∃ as,ReadsAllW R cl h us ds as
 | [],_,_,x,r=>by
  cases x
  cases r
  exact ⟨_,ReadsAllW.nil⟩
 | d :: ds,_,_,x,r=>by
  cases x with
  | cons h1 h2 =>
   cases r with
   | cons r1 r2 =>
    obtain ⟨as,q1⟩:=Dw.reads hok KX d _ _ h1 r1
    obtain ⟨bs,q2⟩:=Dw.readsAll hok KX ds _ _ h2 r2
    exact ⟨_,ReadsAllW.cons q1 q2⟩
end
end
mutual
def plW:WData→Bool
 | .none=>true
 | .bool _=>true
 | .int _=>true
 | .str _=>true
 | .bytes _=>true
 | .list xs=>plWs xs
 | .tuple xs=>plWs xs
 | _=>false
def plWs:List WData→Bool
 | []=>true
 | x :: r=>plW x && plWs r
end
theorem Qlc {α : Type} {f : α→WData} (h:∀ a,plW (f a) = true):∀ l:List α,plWs (l.map f) = true
 | []=>rfl
 | x :: r=>by
  show (plW (f x) && plWs (r.map f)) = true
  rw [h x,Qlc h r] <;> rfl
theorem Qff:∀ (c:Codec) (a:c.denote),plW (c.enc a) = true
 | .unit,_=>rfl
 | .bool,_=>rfl
 | .int _ _,_=>rfl
 | .nat _ _,_=>rfl
 | .u8,_=>rfl
 | .bytes _ _,_=>rfl
 | .text _ _ _ _,_=>rfl
 | .list _ _ c,a=>Qlc (fun x=>Qff c x) a
 | .pair c d,a=>by
  show (plW (c.enc a.1) && (plW (d.enc a.2) && true)) = true
  rw [Qff c a.1,Qff d a.2] <;> rfl
 | .triple c d e,a=>by
  show (plW (c.enc a.1) && (plW (d.enc a.2.1) && (plW (e.enc a.2.2) && true))) = true
  rw [Qff c a.1,Qff d a.2.1,Qff e a.2.2] <;> rfl
 | .option c,none=>rfl
 | .option c,some x=>Qff c x
theorem Qiz:∀ (cs:List Codec) (a:Codec.denoteAll cs),plWs (Codec.encAll cs a) = true
 | [],_=>rfl
 | c :: cs,a=>by
  show (plW (c.enc a.1) && plWs (Codec.encAll cs a.2)) = true
  rw [Qff c a.1,Qiz cs a.2] <;> rfl
theorem Qf0:∀ {xs:List WData} {d:WData},d ∈ xs→d.weight ≤ WData.weightAll xs
 | [],d,h=>absurd h (by simp)
 | x :: r,d,h=>by
  show d.weight ≤ x.weight + 1 + WData.weightAll r
  rcases List.mem_cons.mp h with e | m
  ·rw [e]
   omega
  ·have z:=Qf0 m
   omega
def toV:Value→V
 | .none=>.non
 | .bool b=>.bl b
 | .int i _=>.int i
 | .str x _=>.str x
 | .bytes b _=>.byt b
 | .ref a=>.ref a
 | _=>.non
def OkU (A:List Addr):Value→Prop
 | .none=>True
 | .bool _=>True
 | .int _ _=>True
 | .str _ _=>True
 | .bytes _ _=>True
 | .ref a=>a ∈ A
 | _=>False
theorem OkU.mono {A B:List Addr} (h:∀ a ∈ A,a ∈ B):∀ {u:Value},OkU A u→OkU B u:=fun {u} x=>by
 cases u with
 | ref a=>exact h a x
 | none=>trivial
 | bool b=>trivial
 | int i t=>trivial
 | str s t=>trivial
 | bytes b t=>trivial
 | _=>exact False.elim x
theorem Qr2 {A:List Addr} {u:Value} (x:OkU A u):RelV (toV u) u:=by
 cases u with
 | ref a=>rfl
 | none=>rfl
 | bool b=>rfl
 | int i t=>exact ⟨t,rfl⟩
 | str s t=>exact ⟨t,rfl⟩
 | bytes b t=>exact ⟨t,rfl⟩
 | _=>exact False.elim x
theorem Qdz {A:List Addr}:∀ {vs:List Value},(∀ u ∈ vs,OkU A u)→Vals (vs.map toV) vs
 | [],_=>.nil
 | u :: r,h=>.cons (Qr2 (h u (List.mem_cons_self ..))) (Qdz fun x hx=>h x (List.mem_cons_of_mem _ hx))
def Qfs (h:Heap) (A:List Addr) (a:Addr):Prop:=∃ vs:List Value,vs.length ≤ sizeLine∧(∀ u ∈ vs,OkU A u) ∧
 (h.get? a = some { cls:=.type "list",data:=.seq vs.toArray } ∨ h.get? a = some { cls:=.type "tuple",data:=.seq vs.toArray })
theorem Qfs.mono {h:Heap} {A B:List Addr} {a:Addr} (k:∀ a ∈ A,a ∈ B) (x:Qfs h A a):Qfs h B a:=by
 obtain ⟨vs,h1,h2,h3⟩:=x
 exact ⟨vs,h1,fun u hu=>(h2 u hu).mono k,h3⟩
theorem Qd1 {P:Params} {h:Heap}:∀ {vs:List Value} {ds:List WData},WellAll P h vs ds→vs.length = ds.length
 | _,_, .nil=>rfl
 | _,_, .cons _ b=>by
  show _ + 1 = _ + 1
  rw [Qd1 b]
theorem Qih {P:Params} {h:Heap} {v:Value} {ds:List WData} (x:Well P h v (.list ds)):∃ (a:Addr) (vs:List Value),v = .ref a∧h.get? a = some { cls:=.type "list",data:=.seq vs.toArray }∧WellAll P h vs ds:=by
 cases x with
 | list ho hall=>exact ⟨_,_,rfl,ho,hall⟩
theorem Qh7 {P:Params} {h:Heap} {v:Value} {ds:List WData} (x:Well P h v (.tuple ds)):∃ (a:Addr) (vs:List Value),v = .ref a∧h.get? a = some { cls:=.type "tuple",data:=.seq vs.toArray }∧WellAll P h vs ds:=by
 cases x with
 | tuple ho hall=>exact ⟨_,_,rfl,ho,hall⟩
theorem Qii {P:Params} {h:Heap} {us:List Value} {d:WData} {ds:List WData} (x:WellAll P h us (d :: ds)):∃ (v:Value) (vs:List Value),us = v :: vs∧Well P h v d∧WellAll P h vs ds:=by
 cases x with
 | cons a b=>exact ⟨_,_,rfl,a,b⟩
theorem Qpg {n:Nat} (h:n ≤ 1048576):n ≤ sizeLine:=Nat.le_trans h (by decide)
section
variable {P : Params} {h : Heap}
mutual
theorem Qse:∀ (d:WData) (v:Value),Well P h v d→plW d = true→d.weight ≤ 1048576→∃ A:List Addr,OkU A v∧∀ a ∈ A,Qfs h A a
 | .none,_,x,_,_=>by
  cases x
  exact ⟨[],trivial,fun a m=>absurd m (by simp)⟩
 | .bool b,_,x,_,_=>by
  cases x
  exact ⟨[],trivial,fun a m=>absurd m (by simp)⟩
 | .int i,_,x,_,_=>by
  cases x
  exact ⟨[],trivial,fun a m=>absurd m (by simp)⟩
 | .str s,_,x,_,_=>by
  cases x
  exact ⟨[],trivial,fun a m=>absurd m (by simp)⟩
 | .bytes b,_,x,_,_=>by
  cases x
  exact ⟨[],trivial,fun a m=>absurd m (by simp)⟩
 | .list ds,_,x,p,z=>by
  obtain ⟨a,vs,rfl,ho,hall⟩:=Qih x
  have z2:WData.weightAll ds ≤ 1048576:=z
  obtain ⟨A,h1,h2⟩:=Qfw ds _ hall p fun d hd=>Nat.le_trans (Qf0 hd) z2
  have k:∀ b ∈ A,b ∈ a :: A:=fun b hb=>List.mem_cons_of_mem _ hb
  refine ⟨a :: A,List.mem_cons_self ..,fun b hb=>?_⟩
  rcases List.mem_cons.mp hb with e | m
  ·rw [e]
   exact ⟨vs,Qpg (by rw [Qd1 hall];exact Nat.le_trans (PySem.W.length_le_weightAllW ds) z2),fun u hu=>(h1 u hu).mono k, .inl ho⟩
  ·exact (h2 b m).mono k
 | .tuple ds,_,x,p,z=>by
  obtain ⟨a,vs,rfl,ho,hall⟩:=Qh7 x
  have z2:WData.weightAll ds ≤ 1048576:=z
  obtain ⟨A,h1,h2⟩:=Qfw ds _ hall p fun d hd=>Nat.le_trans (Qf0 hd) z2
  have k:∀ b ∈ A,b ∈ a :: A:=fun b hb=>List.mem_cons_of_mem _ hb
  refine ⟨a :: A,List.mem_cons_self ..,fun b hb=>?_⟩
  rcases List.mem_cons.mp hb with e | m
  ·rw [e]
   exact ⟨vs,Qpg (by rw [Qd1 hall];exact Nat.le_trans (PySem.W.length_le_weightAllW ds) z2),fun u hu=>(h1 u hu).mono k, .inr ho⟩
  ·exact (h2 b m).mono k
 | .float _,_,_,p,_=>Bool.noConfusion (show false = true from p)
 | .dict _,_,_,p,_=>Bool.noConfusion (show false = true from p)
 | .bytearray _,_,_,p,_=>Bool.noConfusion (show false = true from p)
 | .set _,_,_,p,_=>Bool.noConfusion (show false = true from p)
 | .frozenset _,_,_,p,_=>Bool.noConfusion (show false = true from p)
 | .obj _ _,_,_,p,_=>Bool.noConfusion (show false = true from p)
theorem Qfw:∀ (ds:List WData) (vs:List Value),WellAll P h vs ds→plWs ds = true→(∀ d ∈ ds,d.weight ≤ 1048576)→∃ A:List Addr,(∀ u ∈ vs,OkU A u)∧∀ a ∈ A,Qfs h A a
 | [],_,x,_,_=>by
  cases x
  exact ⟨[],fun u m=>absurd m (by simp),fun a m=>absurd m (by simp)⟩
 | d :: ds,_,x,p,z=>by
  obtain ⟨v,vs,rfl,x1,x2⟩:=Qii x
  have q:plW d = true∧plWs ds = true:=Bool.and_eq_true_iff.mp p
  obtain ⟨A,a1,a2⟩:=Qse d v x1 q.1 (z d (List.mem_cons_self ..))
  obtain ⟨B,b1,b2⟩:=Qfw ds vs x2 q.2 fun e he=>z e (List.mem_cons_of_mem _ he)
  have kA:∀ b ∈ A,b ∈ A ++ B:=fun b hb=>List.mem_append.mpr (.inl hb)
  have kB:∀ b ∈ B,b ∈ A ++ B:=fun b hb=>List.mem_append.mpr (.inr hb)
  refine ⟨A ++ B,fun u hu=>?_,fun b hb=>?_⟩
  ·rcases List.mem_cons.mp hu with e | m
   ·rw [e]
    exact a1.mono kA
   ·exact (b1 u m).mono kB
  ·rcases List.mem_append.mp hb with m | m
   ·exact (a2 b m).mono kA
   ·exact (b2 b m).mono kB
end
end
def hoOf (o:Obj):Option HO:=match o.data with
 | .seq vs _=>if (o.cls == Value.type "list") = true then some (.frz o (.lst (vs.toList.map toV))) else some (.frz o (.tup (vs.toList.map toV)))
 | _=>none
def argH (K:PySem.W.Frag) (h:Heap) (A:List Addr):Hp:=fun b=>if b ∈ A then (if (K.lookup b).isNone = true then (h.get? b).bind hoOf else none) else none
def Qqq (H:Hp):Prop:=∀ b,H b = none ∨ ∃ o u,H b = some (.frz o u)
theorem Qlp (vs:List Value):hoOf { cls:=.type "list",data:=.seq vs.toArray } = some (.frz { cls:=.type "list",data:=.seq vs.toArray } (.lst (vs.map toV))):=by
 show (if (Value.type "list" == Value.type "list") = true then some (HO.frz { cls:=.type "list",data:=.seq vs.toArray } (.lst (vs.toArray.toList.map toV))) else some (HO.frz { cls:=.type "list",data:=.seq vs.toArray } (.tup (vs.toArray.toList.map toV)))) = _
 rw [if_pos (beq_self_eq_true _)]
theorem Qlo (vs:List Value):hoOf { cls:=.type "tuple",data:=.seq vs.toArray } = some (.frz { cls:=.type "tuple",data:=.seq vs.toArray } (.tup (vs.map toV))):=by
 show (if (Value.type "tuple" == Value.type "list") = true then some (HO.frz { cls:=.type "tuple",data:=.seq vs.toArray } (.lst (vs.toArray.toList.map toV))) else some (HO.frz { cls:=.type "tuple",data:=.seq vs.toArray } (.tup (vs.toArray.toList.map toV)))) = _
 rw [if_neg (by decide)]
section
variable {P : Program} {w : World} {K : PySem.W.Frag} {h : Heap} {A : List Addr}
theorem Qif {b:Addr} {o:Obj} (hb:b ∈ A) (hk:K.lookup b = none) (e:h.get? b = some o):argH K h A b = hoOf o:=by
 unfold argH
 rw [if_pos hb,hk,if_pos (show (none:Option Obj).isNone = true from rfl),e] <;> rfl
theorem Qua {b:Addr} {u:HO} (q:argH K h A b = some u):b ∈ A∧K.lookup b = none:=by
 unfold argH at q
 by_cases hb:b ∈ A
 ·rw [if_pos hb] at q
  cases hk:K.lookup b with
  | none=>exact ⟨hb,rfl⟩
  | some o =>
   rw [hk,if_neg (by simp)] at q
   cases q
 ·rw [if_neg hb] at q
  cases q
theorem Qie (ar:∀ a ∈ A,Qfs h A a) {b:Addr} {u:HO} (q:argH K h A b = some u):K.lookup b = none∧∃ vs:List Value,vs.length ≤ sizeLine∧(∀ u ∈ vs,OkU A u) ∧
  ((h.get? b = some { cls:=.type "list",data:=.seq vs.toArray }∧u = .frz { cls:=.type "list",data:=.seq vs.toArray } (.lst (vs.map toV))) ∨
   (h.get? b = some { cls:=.type "tuple",data:=.seq vs.toArray }∧u = .frz { cls:=.type "tuple",data:=.seq vs.toArray } (.tup (vs.map toV)))):=by
 obtain ⟨hb,hk⟩:=Qua q
 obtain ⟨vs,h1,h2,h3⟩:=ar b hb
 refine ⟨hk,vs,h1,h2,?_⟩
 rcases h3 with e | e
 ·rw [Qif hb hk e,Qlp] at q
  exact .inl ⟨e,(Option.some.inj q).symm⟩
 ·rw [Qif hb hk e,Qlo] at q
  exact .inr ⟨e,(Option.some.inj q).symm⟩
theorem Qqm (ar:∀ a ∈ A,Qfs h A a):Qqq (argH K h A):=fun b=>by
 cases q:argH K h A b with
 | none=>exact .inl rfl
 | some u =>
  obtain ⟨_,vs,_,_,⟨_,e⟩ | ⟨_,e⟩⟩:=Qie ar q
  ·exact .inr ⟨_,_,by rw [e]⟩
  ·exact .inr ⟨_,_,by rw [e]⟩
theorem Qus (ar:∀ a ∈ A,Qfs h A a):HOk P w (argH K h A) h:=fun b u q=>by
 obtain ⟨_,vs,h1,h2,⟨e,rfl⟩ | ⟨e,rfl⟩⟩:=Qie ar q
 ·exact ⟨e,by rw [List.length_map];exact h1,vs,_,Qdz h2,e⟩
 ·exact ⟨e,by rw [List.length_map];exact h1,vs,Qdz h2,_,e,rfl,_,rfl⟩
theorem Qhz {c c':Value} {vs us:List Value} (e:(some { cls:=c,data:=.seq vs.toArray }:Option Obj) = some { cls:=c',data:=.seq us.toArray }):c = c'∧vs = us:=by
 have e1:=Option.some.inj e
 have e2:c = c':=congrArg Obj.cls e1
 have e3:Data.seq vs.toArray = Data.seq us.toArray:=congrArg Obj.data e1
 injection e3 with e4
 refine ⟨e2,?_⟩
 have e5:=congrArg Array.toList e4
 simpa using e5
theorem argL (KX:K.In h) (ar:∀ a ∈ A,Qfs h A a) {a:Addr} {vs:List Value} (ha:a ∈ A) (e:h.get? a = some { cls:=.type "list",data:=.seq vs.toArray }):(∀ u ∈ vs,OkU A u)∧SqL K (argH K h A) a (vs.map toV):=by
 obtain ⟨us,h1,h2,h3⟩:=ar a ha
 have hu:us = vs:=by
  rcases h3 with q | q
  ·rw [e] at q
   exact (Qhz q).2.symm
  ·rw [e] at q
   exact absurd (Value.type.inj (Qhz q).1) (by decide)
 subst hu
 refine ⟨h2,?_⟩
 cases hk:K.lookup a with
 | none=>exact .inl (.inr ⟨_,by rw [Qif ha hk e,Qlp]⟩)
 | some o =>
  have e2:=KX a o hk
  rw [e] at e2
  obtain rfl:=Option.some.inj e2
  exact .inr ⟨_,us.toArray,_,hk,rfl,rfl,rfl,by rw [List.size_toArray];exact h1,by simpa using Qdz h2⟩
theorem argT (KX:K.In h) (ar:∀ a ∈ A,Qfs h A a) {a:Addr} {vs:List Value} (ha:a ∈ A) (e:h.get? a = some { cls:=.type "tuple",data:=.seq vs.toArray }):(∀ u ∈ vs,OkU A u)∧SqT K (argH K h A) a (vs.map toV):=by
 obtain ⟨us,h1,h2,h3⟩:=ar a ha
 have hu:us = vs:=by
  rcases h3 with q | q
  ·rw [e] at q
   exact absurd (Value.type.inj (Qhz q).1) (by decide)
  ·rw [e] at q
   exact (Qhz q).2.symm
 subst hu
 refine ⟨h2,?_⟩
 cases hk:K.lookup a with
 | none=>exact .inl (.inr ⟨_,by rw [Qif ha hk e,Qlo]⟩)
 | some o =>
  have e2:=KX a o hk
  rw [e] at e2
  obtain rfl:=Option.some.inj e2
  exact .inr ⟨_,us.toArray,_,hk,rfl,rfl,by rw [List.size_toArray];exact h1,by simpa using Qdz h2⟩
mutual
theorem Qyb {Pm:Params} (KX:K.In h) (ar:∀ a ∈ A,Qfs h A a):∀ (d:WData) (v:Value),Well Pm h v d→plW d = true→OkU A v→Dw K (argH K h A) (toV v) d
 | .none,_,x,_,_=>by
  cases x
  exact .non
 | .bool b,_,x,_,_=>by
  cases x
  exact .bl b
 | .int i,_,x,_,_=>by
  cases x
  exact .int i
 | .str s,_,x,_,_=>by
  cases x
  exact .str s
 | .bytes b,_,x,_,_=>by
  cases x
  have z:=Dw.byt (K:=K) (H:=argH K h A) b.toArray
  exact z
 | .list ds,_,x,p,hu=>by
  obtain ⟨a,vs,rfl,ho,hall⟩:=Qih x
  obtain ⟨h2,hs⟩:=argL KX ar hu ho
  exact .lst hs (Qlu KX ar ds _ hall p h2)
 | .tuple ds,_,x,p,hu=>by
  obtain ⟨a,vs,rfl,ho,hall⟩:=Qh7 x
  obtain ⟨h2,hs⟩:=argT KX ar hu ho
  exact .tup hs (Qlu KX ar ds _ hall p h2)
 | .float _,_,_,p,_=>Bool.noConfusion (show false = true from p)
 | .dict _,_,_,p,_=>Bool.noConfusion (show false = true from p)
 | .bytearray _,_,_,p,_=>Bool.noConfusion (show false = true from p)
 | .set _,_,_,p,_=>Bool.noConfusion (show false = true from p)
 | .frozenset _,_,_,p,_=>Bool.noConfusion (show false = true from p)
 | .obj _ _,_,_,p,_=>Bool.noConfusion (show false = true from p)
theorem Qlu {Pm:Params} (KX:K.In h) (ar:∀ a ∈ A,Qfs h A a):∀ (ds:List WData) (vs:List Value),WellAll Pm h vs ds→plWs ds = true→(∀ u ∈ vs,OkU A u)→Qfr K (argH K h A) (vs.map toV) ds
 | [],_,x,_,_=>by
  cases x
  exact .nil
 | d :: ds,_,x,p,hu=>by
  obtain ⟨v,vs,rfl,x1,x2⟩:=Qii x
  have q:plW d = true∧plWs ds = true:=Bool.and_eq_true_iff.mp p
  exact .cons (Qyb KX ar d v x1 q.1 (hu _ (List.mem_cons_self ..))) (Qlu KX ar ds vs x2 q.2 fun u m=>hu u (List.mem_cons_of_mem _ m))
end
end
theorem Qo9 {P:Program} {w:World} {K:PySem.W.Frag} {mg mb:Str→Option Value} {CX:CXT} {k:Nat} {fa:Addr} {fd:FuncData} {ps:List Str} {sp:Sp} {s₁ : Shared} {vals:List Value} {ds:List WData} {R:PySem.W.WRecords} {cl:Str→Option Addr} {d0:WData}
  (KX:K.In s₁.heap) (hns:s₁.heap.Ns mainGlobals mg) (hb:s₁.heap.Ns builtinsNs mb) (hbb:∀ x:Str,x ≠ "__name__" → mb x = bootBuiltins x) (hlim:s₁.heap.NoLimit) (hg:s₁.gens = #[])
  (hwl:WellAll w.params s₁.heap vals ds) (hpl:plWs ds = true) (hwt:∀ d ∈ ds,d.weight ≤ 1048576) (hr:Room k callerA)
  (F:∀ base:Heap,K.In base→base.Ns mainGlobals mg→FnOk P w K mg base CX k fa fd ps sp) (hbind:∀ (s:Shared) (us:List Value),us.length = ps.length→BindsTo s fd ⟨us,[]⟩ (ps.zip us)) (hlen:ds.length = ps.length)
  (hsp:∀ (H:Hp) (xs:List V),Qqq H→Qfr K H xs ds→sp xs H (fun v H'=>Dw K H' v d0) fun _ _ _=>False)
  (hCX:∀ H e s',CX [] H s₁ (fun _ _ _=>False) e s'→False) :
  codeAny (model P w) callerA (.call (.ref fa) ⟨vals,[]⟩) (fun r s'=>∃ u as,r = .ok (.ret u)∧ReadsW R cl s'.heap u d0 as∧OldK s₁.heap s'.heap∧s'.os = s₁.os∧AllBare s'.gens) s₁:=by
 obtain ⟨A,ho,ar⟩:=Qfw ds vals hwl hpl hwt
 have hO:Qqq (argH K s₁.heap A):=Qqm ar
 have hok:HOk P w (argH K s₁.heap A) s₁.heap:=Qus ar
 have hS:=Qlu KX ar ds vals hwl hpl ho
 have hV:=Qdz ho
 have hK:∀ b u,argH K s₁.heap A b = some u→K.lookup b = none:=fun b u q=>(Qie ar q).1
 have noA:∀ {b:Addr} {o:Obj} {es:Array DictEntry} {ep:Nat},s₁.heap.get? b = some o→o.data = .dict es ep→argH K s₁.heap A b = none:=fun {b o es ep} e d=>by
  cases q:argH K s₁.heap A b with
  | none=>rfl
  | some u =>
   obtain ⟨_,vs,_,_,⟨e2,_⟩ | ⟨e2,_⟩⟩:=Qie ar q
   ·rw [e2] at e
    cases e
    have d':Data.seq vs.toArray _ = Data.dict es ep:=d
    cases d'
   ·rw [e2] at e
    cases e
    have d':Data.seq vs.toArray _ = Data.dict es ep:=d
    cases d'
 generalize argH K s₁.heap A = H at hO hok hS hK noA
 have base_of:∀ {b:Addr} {o:Obj},s₁.heap.get? b = some o→H b = none→(hidT s₁.heap H).get? b = some o:=fun e n=>Qru e n
 have nsK:∀ {b:Addr} {m:Str→Option Value},s₁.heap.Ns b m→(hidT s₁.heap H).Ns b m:=fun {b m} ⟨o,es,ep,e,d,r⟩=>⟨o,es,ep,base_of e (noA e d),d,r⟩
 have nK:∀ b o,K.lookup b = some o→H b = none:=fun b o e=>by
  cases q:H b with
  | none=>rfl
  | some u =>
   rw [hK b u q] at e
   cases e
 have hKb:K.In (hidT s₁.heap H):=fun b o e=>base_of (KX b o e) (nK b o e)
 have hM:Mod K mg (hidT s₁.heap H):=⟨hKb,nsK hns,⟨mb,nsK hb,hbb⟩,let ⟨mc,h1,h2⟩:=hlim; ⟨mc,nsK h1,h2⟩⟩
 have e0:Env0 P w K mg (hidT s₁.heap H) callerA [] s₁ H:=⟨rfl,hM,fun b o e=>Qu9 e,Nat.le_of_eq (Qpv _ _),trivial,fun b hb=>absurd (show b ∈ ([]:List Addr) from hb) (by simp),hok, .of_eq hg⟩
 have hl:vals.length = ps.length:=by rw [Qd1 hwl];exact hlen
 refine codeAny_mono ((F _ hKb (nsK hns)).run callerA [] s₁ H ⟨vals,[]⟩ vals (vals.map toV) _ _ hr e0 (hbind s₁ vals hl) hV (hsp H _ hO hS)) fun r s' x=>?_
 cases r with
 | error e=>exact (hCX H e s' x).elim
 | ok fl =>
  cases fl with
  | next=>exact False.elim x
  | brk=>exact False.elim x
  | cont=>exact False.elim x
  | ret u =>
   obtain ⟨v,H',os,bare,un,hok',r',q⟩:=x
   have kept:∀ b o,s₁.heap.get? b = some o→s'.heap.get? b = some o:=fun b o e=>by
    cases q2:H b with
    | none=>exact un.keep b o e q2 (by intro z;exact absurd (show b ∈ ([]:List Addr) from z) (by simp)) (by simp)
    | some u2 =>
     rcases hO b with z | ⟨ob,u3,z⟩
     ·rw [q2] at z
      cases z
     ·have z2:=un.frzs b ob _ z
      obtain ⟨e1,_⟩:=hok b _ z
      obtain ⟨e2,_⟩:=hok' b _ z2
      rw [e] at e1
      cases e1
      exact e2
   have KX':K.In s'.heap:=fun b o e=>kept b o (KX b o e)
   obtain ⟨as,hrd⟩:=Dw.reads (R:=R) (cl:=cl) hok' KX' d0 v u q r'
   exact ⟨u,as,rfl,hrd,OldK.of_keep kept,os,bare⟩
theorem Qh1 {ds:List WData} (h:WData.layableAll ds = true):∀ d ∈ ds,d.weight ≤ 1048576:=fun d hd =>
 (PySem.W.layableW_iff.mp (List.all_eq_true.mp h d hd)).2.2
theorem Qhl:∀ (cs:List Codec) (a:Codec.denoteAll cs),(Codec.encAll cs a).length = cs.length
 | [],_=>rfl
 | c :: cs,a=>by
  show (Codec.encAll cs a.2).length + 1 = cs.length + 1
  rw [Qhl cs a.2]
theorem Qnz {r:OpenSpec} {k:Nat} {q:Program} {loose:List Str} {XP:(Str→Option Value)→Heap→Prop} {YP:World→Heap→Prop} {d:DefRec} {K:Params→PySem.W.Frag} {CX:World→CXT} {ps:List Str} {sp:World→Sp}
  (hwell:r.wellSaid = true) (hdf:d.params.defaults = []) (hlen:r.args.length = ps.length) (hr:Room k callerA)
  (hY:∀ (w:World) (h:Heap),YP w h→(K w.params).In h)
  (F:∀ (w:World) (mg:Str→Option Value) (fa:Addr) (h:Heap),YP w h→(K w.params).In h→h.Ns mainGlobals mg→mg d.name = some (.ref fa) →
   ∃ fd:FuncData,(∀ (s:Shared) (us:List Value),us.length = ps.length→BindsTo s fd ⟨us,[]⟩ (ps.zip us)) ∧
    ∀ base:Heap,(K w.params).In base→base.Ns mainGlobals mg→FnOk r.prog w (K w.params) mg base (CX w) k fa fd ps (sp w))
  (hsp:∀ (w:World) (H:Hp) (xs:List V) (a:Codec.denoteAll r.args),Qqq H→Codec.withinAll r.args a = true→Codec.app r.args r.asked a = true→Qfr (K w.params) H xs (Codec.encAll r.args a) →
   sp w xs H (fun v H'=>Dw (K w.params) H' v (r.ret.enc (Codec.app r.args r.f a))) fun _ _ _=>False)
  (hCX:∀ (w:World) (H:Hp) (s:Shared) (e:Value) (s':Shared),CX w [] H s (fun _ _ _=>False) e s'→False) :
  PySem.W.WalkOS q loose XP YP r d [] (fun f vs=>PySem.call f vs):=by
 intro w s_0 s₁ mg mb G Y fa o pm cd doc dV kV ho hd hcd hD hmg hg args vals as hpre hlay hrd hwl hlo
 obtain ⟨a,e1,e2⟩:=PySem.W.os_pre_some hpre
 obtain ⟨e3,hwi⟩:=Codec.encAll_of_decAll r.args args a e1
 subst e3
 have KX:=hY w _ Y
 obtain ⟨fd,hb,hF⟩:=F w mg fa _ Y KX G.T.g hmg
 refine PySem.W.enter_call (codeAny_mono (Qo9 (R:=[]) (cl:=classAt s_0.heap) (d0:=r.ret.enc (Codec.app r.args r.f a)) KX G.T.g G.T.b G.T.builtins G.T.nolimit hg hwl (Qiz _ _) (Qh1 hlay) hr hF hb (by rw [Qhl];exact hlen)
  (fun H xs hO hS=>hsp w H xs a hO hwi e2 hS) fun H e s'=>hCX w H s₁ e s') fun r' s' hq=>?_)
 obtain ⟨u,as',rfl,h1,h2,h3,h4⟩:=hq
 exact ⟨.inl ⟨u,_,as',rfl,fun _=>rfl,h1,(OpenSpec.post_iff hwell hwi _ _).mpr rfl,fun z=>Bool.noConfusion (show false = true from z)⟩,h2,h3,h4⟩
end L2
end
section
namespace L2
open PySem PySem.Spec PyProof.Rows
def Qfb (K:PySem.W.Frag) (C:Addr):Bool:=match K.lookup C with
 | some ⟨.type "type",_, .cls cd,sl⟩=>(match cd.mro,sl.toList with
  | .ref C' :: bm,[_,_,_,_,some (.builtin n),_]=>C' == C && (!cd.hasDel && (cd.hasDict && (n == "Exception.__new__" && (bm.contains (.type "Exception") && (bm.contains (.type "BaseException") && (!bm.contains (.type "AttributeError") && !bm.contains (.type "NameError")))))))
  | _,_=>false)
 | _=>false
theorem Qls {K:PySem.W.Frag} {h:Heap} {C:Addr} (X:K.In h) (q:Qfb K C = true):∃ nm qn N bs bm hdct sn sub ab col dd k0 k1 k2 k3 k5,
  h.get? C = some (excClassObj nm qn C N bs bm hdct sn sub ab col dd k0 k1 k2 k3 k5 "Exception.__new__")∧hdct = true∧bm.contains (.type "Exception") = true∧bm.contains (.type "BaseException") = true ∧
   bm.contains (.type "AttributeError") = false∧bm.contains (.type "NameError") = false:=by
 unfold Qfb at q
 split at q
 ·rename_i dd cd sl ho
  split at q
  ·rename_i C' bm k0 k1 k2 k3 n k5 hm hs
   rw [Bool.and_eq_true,Bool.and_eq_true,Bool.and_eq_true,Bool.and_eq_true,Bool.and_eq_true,Bool.and_eq_true,Bool.and_eq_true,Bool.not_eq_true',Bool.not_eq_true',Bool.not_eq_true'] at q
   obtain ⟨q1,q2,q3,q4,q5,q6,q7,q8⟩:=q
   obtain rfl:=beq_iff_eq.mp q1
   obtain rfl:=beq_iff_eq.mp q4
   obtain ⟨nm,bs,mro,ns,qn,hd,sn,sub,ab,col,del⟩:=cd
   dsimp only at hm q2 q3
   subst hm q2
   obtain ⟨l⟩:=sl
   dsimp only at hs
   subst hs
   exact ⟨nm,qn,ns,bs,bm,hd,sn,sub,ab,col,dd,k0,k1,k2,k3,k5,X _ _ ho,q3,q5,q6,q7,q8⟩
  ·cases q
 ·cases q
section
variable {prog : Program} {w : World} {A : Around} {h : Heap} {g : Array GenState} {d : Drawn} {t : Nat} {os : OsState}
variable {nm q : Str} {C N : Addr} {bs bm : List Value} {hdct : Bool} {sn : List Str} {sub : List Value} {ab : Bool} {col : Option Bool} {dd : Option Addr} {k0 k1 k2 k3 k5 : Option Value}
abbrev Qco (C tup:Addr):Obj:={ cls:=.ref C,data:=.fields #[.ref tup, .none, .none, .none, .bool false, .none] }
abbrev Qe8 (us:List Value):Obj:={ cls:=.type "tuple",data:=.seq us.toArray }
theorem Qum {R:Result→Shared→Prop} {us:List Value} (hC:h.get? C = some (excClassObj nm q C N bs bm hdct sn sub ab col dd k0 k1 k2 k3 k5 "Exception.__new__"))
  (c1:bm.contains (.type "Exception") = true) (c2:bm.contains (.type "AttributeError") = false) (c3:bm.contains (.type "NameError") = false) (hl:us.length ≤ sizeLine)
  (hq:R (.ok (.ret (.ref (h.objs.size + 1)))) ⟨(h.push (Qe8 us)).push (Qco C h.objs.size),g,d,t,os⟩) :
  codeAny (model prog w) A (.call (.builtin "Exception.__new__") ⟨.ref C :: us,[]⟩) R ⟨h,g,d,t,os⟩:=by
 have Fn:=PySem.F.excBase_Exception
 have d1:(Value.ref C :: bm).contains (.type "Exception") = true:=by rw [List.contains_cons,c1,Bool.or_true]
 have d2:(Value.ref C :: bm).contains (.type "AttributeError") = false:=by rw [List.contains_cons,c2];rfl
 have d3:(Value.ref C :: bm).contains (.type "NameError") = false:=by rw [List.contains_cons,c3];rfl
 have hstar:=Fn.noStar
 have hends:=Fn.ends
 refine codeAny_call_builtin_code (Code.quiet_builtin _ Fn.quiet) ?_
 simp only [checkBuiltinCall,Fn.newKind,Fn.newSplit,Fn.newRow]
 repeat (first | refine wpAny_loadPart_at hC ?_ | (refine wpAny_isSubtype_exc hC ?_;rw [d1]) | refine wpAny_staticBase_exc hC ?_ | refine wpAny_madeBy_exc hC ?_ | simp only [bne_self_eq_false,Bool.false_eq_true,if_false] | wp_step)
 refine codeAny_builtinAt Fn.entry ?_
 unfold Builtin.«BaseException.__new__»
 refine PySem.wpAt_bind ?_
 show PySem.wpAt _ _ _ (stack >>= _) _ _ _
 refine PySem.wpAt_bind (PySem.wpAt_stack fun p below=>PySem.wpAt_of_wpAny ?_)
 wp_walk
 refine PySem.wpAt_of_wpAny ?_
 rw [Fn.owner]
 repeat (first | with_reducible refine wpAny_madeHere_exc Fn.canon hC ?_ | with_reducible refine wpAny_loadPart_at hC ?_ | (with_reducible refine wpAny_isSubtype_exc hC ?_;first | rw [d1] | rw [d2] | rw [d3]) | wp_step)
 show R _ _
 rw [Heap.size_push]
 exact hq
end
section
variable {prog : Program} {w : World} {A : Around} {K : PySem.W.Frag} {C f : Addr} {R : Result → Shared → Prop} {us : List Value} {s : Shared}
theorem Qs2 (X:K.In s.heap) (hE:Qfb K C = true) (hi:PySem.W.findIn K (.ref C) "__init__" = some (some (.ref f))) (hf:PySem.W.typeIn K (.ref f) = some (.type "function")) (hl:us.length ≤ sizeLine)
  (hq:codeAny (model prog w) (A.under (.builtin "type.__call__" ⟨.ref C :: us,[]⟩)) (.call (.ref f) ⟨.ref (s.heap.objs.size + 1) :: us,[]⟩) (PySem.W.InitBack (s.heap.objs.size + 1) R)
   { s with heap:=(s.heap.push (Qe8 us)).push (Qco C s.heap.objs.size) }) :
  codeAny (model prog w) A (.call (.ref C) ⟨us,[]⟩) R s:=by
 obtain ⟨nm,q,N,bs,bm,hdct,sn,sub,ab,col,dd,k0,k1,k2,k3,k5,hC,e1,c1,c2,c3,c4⟩:=Qls X hE
 obtain ⟨h,g,d,t,os⟩:=s
 have f1:=tc_lookup
 have f2:=tc_bind (.ref C)
 have hT:(⟨h,g,d,t,os⟩ : Shared).TypeIs (.ref C) "type" := ⟨_,hC,rfl⟩
 refine codeAny_of_tree ?_
 show wpAny _ _ (callAny (.ref C) _) _ _ _
 repeat (any_goals (first | assumption | with_reducible refine wpAny_loadPart_at hC ?_ | wp_step))
 refine ⟨rfl,?_⟩
 refine codeAny_call_builtin_at (Code.quiet_builtin _ (by decide +kernel)) entry_typeCall (wpAny_check_type_call_sub hC ?_)
 repeat (first | with_reducible refine wpAny_loadPart_at hC ?_ | with_reducible refine wpAny_madeBy_exc hC ?_ | with_reducible refine wpAny_call ?_ | wp_step)
 refine Qum hC c1 c3 c4 hl ?_
 show wpAny _ _ _ _ _ _
 have k:∀ b o,h.get? b = some o→((h.push (Qe8 us)).push (Qco C h.objs.size)).get? b = some o:=fun b o e=>Heap.get?_push_of_some _ (Heap.get?_push_of_some _ e)
 have hC1:=k _ _ hC
 have hget:((h.push (Qe8 us)).push (Qco C h.objs.size)).get? (h.objs.size + 1) = some (Qco C h.objs.size):=by heap_get
 have hcC:(Value.ref C :: bm).contains (.ref C) = true:=by simp
 have t1:PySem.W.Looks (model prog w) ((h.push (Qe8 us)).push (Qco C h.objs.size)) (typeOf (.ref (h.objs.size + 1))) (.ref C):=(PySem.W.Looks.ld hget).andThen .now
 have i1:=(PySem.W.looks_findIn (M:=model prog w) X hi).keeps k
 have b1:=(PySem.W.bind_fn (M:=model prog w) X (.ref (h.objs.size + 1)) hf).keeps k
 unfold isInstance
 repeat (first | with_reducible refine wpAny_loadPart_at hget ?_ | (with_reducible refine wpAny_isSubtype_exc hC1 ?_;rw [hcC]) | wp_step)
 refine wpAny_isSubtype_exc hC1 ?_
 rw [hcC]
 refine wpAny_bind (wpAny_holding (wpAny_bind (wpAny_bind (t1.at (i1.at (wpAny_holding (wpAny_bind (b1.at (wpAny_bind (wpAny_call (codeAny_mono hq fun r s' z=>?_)))))))))))
 cases r with
 | error e=>exact z
 | ok fl =>
  cases fl with
  | ret v =>
   obtain ⟨rfl,z⟩:=z
   exact wpAny_pure (wpAny_pure z)
  | next=>exact z.elim
  | brk=>exact z.elim
  | cont=>exact z.elim
end
end L2
end
section
namespace L2
open PySem PySem.Spec PyProof.Rows
open Builtin Builtin.ObjectAttr
def Qbz:List Value→Bool
 | [.type a, .type b, .type c]=>a == "Exception" && (b == "BaseException" && c == "object")
 | .ref _ :: r=>Qbz r
 | _=>false
theorem Qew {a b c:String} (e:Qbz [.type a, .type b, .type c] = true):a = "Exception" ∧ b = "BaseException" ∧ c = "object" := by
 have e:(a == "Exception" && (b == "BaseException" && c == "object")) = true:=e
 rw [Bool.and_eq_true,Bool.and_eq_true,beq_iff_eq,beq_iff_eq,beq_iff_eq] at e
 exact e
theorem Qea (self:Value):∀ {l:List Value},Qbz l = true→refuseLoop self "__setattr__" l = pure ()
 | [.type a, .type b, .type c],e=>by
  obtain ⟨rfl,rfl,rfl⟩:=Qew e
  exact PySem.F.store_Exception.passes self
 | .ref c :: r,e=>by
  rw [refuseLoop_ref]
  exact Qea self (by
   rcases r with _ | ⟨a,_ | ⟨b,_ | ⟨c,_ | _⟩⟩⟩ <;> exact e)
theorem Qdc:∀ {l:List Value},Qbz l = true→l.contains (.type "object") = true∧l.contains (.type "BaseException") = true∧l.isEmpty = false
 | [.type a, .type b, .type c],e=>by
  obtain ⟨rfl,rfl,rfl⟩:=Qew e
  decide +kernel
 | .ref c :: r,e=>by
  have ih:=Qdc (l:=r) (by rcases r with _ | ⟨a,_ | ⟨b,_ | ⟨c,_ | _⟩⟩⟩ <;> exact e)
  exact ⟨by rw [List.contains_cons,ih.1,Bool.or_true],by rw [List.contains_cons,ih.2.1,Bool.or_true],rfl⟩
structure ECl (K:PySem.W.Frag) (C:Addr):Prop where
 ex:Qfb K C = true
 over:((PySem.W.clsIn K C).any fun cd=>Qbz cd.mro) = true
 sa:PySem.W.findIn K (.ref C) "__setattr__" = some (some (.builtin "object.__setattr__"))
 ga:PySem.W.findIn K (.ref C) "__getattribute__" = some (some (.builtin "BaseException.__getattribute__"))
 gx:PySem.W.findIn K (.ref C) "__getattr__" = some none
 hd:PySem.W.hasDictIn K C = true
section
variable {prog : Program} {w : World} {A : Around} {K : PySem.W.Frag} {x C : Addr} {s : Shared} {R : Result → Shared → Prop} {name : Str} {v : Value} {ox : Obj} {od : Option Obj}
theorem Qpq {T:String} (X:K.In s.heap) (I:PySem.W.InstAt s.heap x ox C od) (c:ECl K C) (hT:∀ l,Qbz l = true→l.contains (.type T) = true):PySem.W.Looks (model prog w) s.heap (isInstance (.ref x) (.type T)) true:=by
 obtain ⟨cd,hc,ho⟩:=PySem.W.any_some c.over
 exact I.type.andThen (PySem.W.looks_mroIn X (by unfold PySem.W.mroIn;rw [hc,Option.bind_some,if_neg (by rw [(Qdc ho).2.2];decide),hT _ ho]))
theorem Qlt {tk:Tok} (X:K.In s.heap) (I:PySem.W.InstAt s.heap x ox C od) (c:ECl K C) (n:Qah K C name)
  (h:∀ b,wpAny (model prog w) A.in1 (storeInOwnDict (.ref x) (.ref C) (.str name tk) name v b)
   (fun fin s'=>match fin with | .done f=>R (.ok f) s' | .again c'=>c'.quiet = true∧codeAny (model prog w) A c' R s') (fun e s'=>R (.error e) s') s) :
  codeAny (model prog w) A (.call (.builtin "object.__setattr__") ⟨[.ref x, .str name tk,v],[]⟩) R s:=by
 have SF:=PySem.F.store_Exception
 obtain ⟨cd,hc,ho⟩:=PySem.W.any_some c.over
 have sub:=Qpq (prog:=prog) (w:=w) (T := "object") X I c fun l e=>(Qdc e).1
 refine codeAny_call_builtin SF.slot.plain SF.entry (@PySem.W.check_slot (model prog w) _ _ s "object.__setattr__" "object" "__setattr__" (.ref x) [.str name tk,v] [] _ SF.kind SF.split sub (SF.args (.ref x) (.str name tk) v) ?_)
 have hm:PySem.W.Looks (model prog w) s.heap (mroOf (.ref C)) cd.mro:=(PySem.W.looks_clsIn X hc).andThen .now
 rw [PySem.W.osa_eq,refuse_eq]
 refine wpAny_bind (wpAny_bind (I.type.here (wpAny_bind (hm.here ?_))))
 rw [Qea _ ho]
 exact wpAny_pure (wpAny_bind (I.type.here (wpAny_bind ((PySem.W.looks_findIn X n).here (wpAny_bind (wpAny_pure (h _)))))))
end
def XO (x C:Addr) (d:Option Addr) (tb:Value):HO:=.ext fun h=>∃ t,h.get? x = some { cls:=.ref C,dict:=d,data:=.fields #[.ref t,tb, .none, .none, .bool false, .none] }
def XD (dx:Addr) (fs:List (Str × V)):HO:=.ext fun h=>∃ mA,h.Ns1 dx mA∧(∀ f,RelO (fs.lookup f) (mA f))∧PySem.Within mA (fs.map (·.1))∧fs.length ≤ 1000
section
variable {P : Program} {w : World} {H : Hp} {h : Heap} {x C dx : Addr} {d : Option Addr} {tb : Value} {fs : List (Str × V)}
theorem XO.mk {t:Addr} (e:h.get? x = some { cls:=.ref C,dict:=d,data:=.fields #[.ref t,tb, .none, .none, .bool false, .none] }):Qcg P w H h x (XO x C d tb) :=
 ⟨⟨t,e⟩,⟨_,e⟩,fun h1 h2 ⟨t',e'⟩ k=>⟨t',k _ e'⟩⟩
theorem XO.get (hok:HOk P w H h) (e:H x = some (XO x C d tb)):∃ t,h.get? x = some { cls:=.ref C,dict:=d,data:=.fields #[.ref t,tb, .none, .none, .bool false, .none] }:=(hok x _ e).1
theorem XD.mk {mA:Str→Option Value} (n:h.Ns1 dx mA) (r:∀ f,RelO (fs.lookup f) (mA f)) (wi:PySem.Within mA (fs.map (·.1))) (z:fs.length ≤ 1000):Qcg P w H h dx (XD dx fs) :=
 ⟨⟨mA,n,r,wi,z⟩,let ⟨o,_,_,e,_⟩:=n; ⟨o,e⟩,fun h1 h2 ⟨m,n',r',w',z'⟩ k=>⟨m,n'.at k,r',w',z'⟩⟩
theorem XD.get (hok:HOk P w H h) (e:H dx = some (XD dx fs)):∃ mA,h.Ns1 dx mA∧(∀ f,RelO (fs.lookup f) (mA f))∧PySem.Within mA (fs.map (·.1))∧fs.length ≤ 1000:=(hok dx _ e).1
end
section
variable {X : Cx} {pins : List (Addr × Obj)} {σ : St} {H : Hp} {s : Shared} {x C dx : Addr} {fs : List (Str × V)} {f : Str} {v : V} {A : Around} {E : Value → Shared → Prop} {tb : Value}
theorem Qq5 {y:V} {u:Value} {Q:Unit→Shared→Prop} (I:Inv X pins σ H s) (ex:H x = some (XO x C (some dx) tb)) (ed:H dx = some (XD dx fs)) (c:ECl X.K C) (n:Qah X.K C f) (hl:fs.length < 1000) (ry:RelV y u) (ne:dx ≠ x)
  (h:∀ s',Inv X pins σ (upd H dx (XD dx (putF f y fs))) s'→Q () s'):wpAny (model X.prog X.w) A (setAttr (.ref x) f u) Q E s:=by
 obtain ⟨t,hx⟩:=XO.get I.hok ex
 obtain ⟨mA,hn,r,wi,_⟩:=XD.get I.hok ed
 obtain ⟨od,hod,hlk⟩:=Qgg hn
 have J:PySem.W.InstAt s.heap x { cls:=.ref C,dict:=some dx,data:=.fields #[.ref t,tb, .none, .none, .bool false, .none] } C (some od):=⟨hx,rfl,rfl,hod⟩
 refine PySem.W.set_plain I.kIn J c.sa (Qlt (s:={ s with toks:=s.toks + 1 }) I.kIn J c n fun b=>?_)
 obtain ⟨cd,hc,hd'⟩:=PySem.W.any_some c.hd
 refine wpAny_bind (wpAny_pure (wpAny_bind (wpAny_bind (wpAny_loadPart hx (wpAny_bind (PySem.W.Looks.here (s:={ s with toks:=s.toks + 1 }) (PySem.W.looks_clsIn I.kIn hc) ?_))))))
 rw [hd']
 refine wpAny_pure (a:=some dx) (wpAny_bind (wpAny_pure (wpAny_bind ?_)))
 refine wpAny_nsSet1 (s:={ s with toks:=s.toks + 1 }) hn fun h' hn2 hs2=>?_
 obtain ⟨oD,esD,epD,hoD,hdD,hcD⟩:=hn2.count (PySem.Within.cons f u wi)
 refine wpAny_bind (wpAny_lookBehind hoD (by rw [hdD];exact pastItsLine_dict (Nat.le_trans hcD (by rw [List.length_cons,List.length_map,sizeLine_eq];omega))) ?_)
 refine wpAny_pure (h _ ?_)
 refine I.write (x:=dx) (e:=dx) (by rw [ed];exact True.intro) (.inl rfl) (fun b q hb z=>(hs2.2 b hb).trans z) ⟨_,hoD⟩ (XD.mk hn2 (fun g=>?_) (fun g hg=>?_) (by have:=Qdb f y fs;omega))
 ·show RelO ((putF f y fs).lookup g) (if g = f then some u else mA g)
  rw [Qej]
  by_cases q:g = f
  ·rw [if_pos q,if_pos q];exact ry
  ·rw [if_neg q,if_neg q];exact r g
 ·by_cases q:g = f
  ·rw [q];exact (Qdv f y fs).1
  ·refine (Qdv f y fs).2 g (wi g fun z=>hg ?_)
   show (if g = f then some u else mA g) = none
   rw [if_neg q];exact z
theorem Qnt {y:V} {u:Value} {Q:Unit→Shared→Prop} (I:Inv X pins σ H s) (ex:H x = some (XO x C none tb)) (c:ECl X.K C) (n:Qah X.K C f) (ry:RelV y u)
  (h:∀ s' dx,H dx = none→Inv X pins σ (upd (upd H dx (XD dx [(f,y)])) x (XO x C (some dx) tb)) s'→Q () s'):wpAny (model X.prog X.w) A (setAttr (.ref x) f u) Q E s:=by
 obtain ⟨t,hx⟩:=XO.get I.hok ex
 have J:PySem.W.InstAt s.heap x { cls:=.ref C,dict:=none,data:=.fields #[.ref t,tb, .none, .none, .bool false, .none] } C none:=⟨hx,rfl,rfl,trivial⟩
 refine PySem.W.set_plain I.kIn J c.sa (Qlt (s:={ s with toks:=s.toks + 1 }) I.kIn J c n fun b=>?_)
 obtain ⟨cd,hc,hd'⟩:=PySem.W.any_some c.hd
 refine wpAny_bind (wpAny_pure (wpAny_bind (wpAny_bind (wpAny_loadPart hx (wpAny_bind (PySem.W.Looks.here (s:={ s with toks:=s.toks + 1 }) (PySem.W.looks_clsIn I.kIn hc) ?_))))))
 rw [hd']
 have hx1:(s.heap.push PySem.W.emptyDict).get? x = some { cls:=.ref C,dict:=none,data:=.fields #[.ref t,tb, .none, .none, .bool false, .none] }:=Heap.get?_push_of_some _ hx
 have lt:x < s.heap.objs.size:=Heap.lt_size hx
 have ne:s.heap.objs.size ≠ x:=Nat.ne_of_gt lt
 have e1:(s.heap.push PySem.W.emptyDict).get? s.heap.objs.size = some PySem.W.emptyDict:=Heap.get?_push_size s.heap rfl
 have I1:=I.laid (a:=s.heap.objs.size) (o:=XD s.heap.objs.size []) (h':=s.heap.push PySem.W.emptyDict) (t':=s.toks) (fun b u q=>Heap.get?_push_of_some _ q) (Nat.le_refl _)
  (XD.mk (Heap.Ns1.of_empty ⟨PySem.W.emptyDict,#[],_,e1,rfl,(fun e he=>absurd he (by simp)),fun _=>rfl⟩) (fun _=>True.intro) (fun y hy=>absurd rfl hy) (Nat.zero_le _))
 have e2:=Heap.get?_update_self (fun o=>{ o with dict:=some s.heap.objs.size }) hx1 rfl
 have e3:((s.heap.push PySem.W.emptyDict).update x (fun o=>{ o with dict:=some s.heap.objs.size })).get? s.heap.objs.size = some PySem.W.emptyDict:=by
  rw [Heap.get?_update_other _ _ (Ne.symm ne)]
  exact e1
 have n2:((s.heap.push PySem.W.emptyDict).update x (fun o=>{ o with dict:=some s.heap.objs.size })).Ns1 s.heap.objs.size (fun _=>none) :=
  Heap.Ns1.of_empty ⟨PySem.W.emptyDict,#[],_,e3,rfl,(fun e he=>absurd he (by simp)),fun _=>rfl⟩
 have I2:=I1.write (x:=x) (e:=x) (o:=XO x C (some s.heap.objs.size) tb) (h':=(s.heap.push PySem.W.emptyDict).update x (fun o=>{ o with dict:=some s.heap.objs.size })) (t':=s.toks + 1) (by rw [Qa6 (Ne.symm ne),ex];exact True.intro) (.inl rfl)
  (fun b q hb z=>by rw [Heap.get?_update_other _ _ (Ne.symm hb)];exact z) ⟨_,e2⟩ (XO.mk e2)
 refine wpAny_bind (wpAny_alloc (wpAny_bind (wpAny_update (s:={ s with heap:=s.heap.push PySem.W.emptyDict,toks:=s.toks + 1 }) hx1 ?_)))
 refine wpAny_pure (a:=some s.heap.objs.size) (wpAny_bind (wpAny_pure (wpAny_bind ?_)))
 refine wpAny_nsSet1 (s:={ s with heap:=(s.heap.push PySem.W.emptyDict).update x (fun o=>{ o with dict:=some s.heap.objs.size }),toks:=s.toks + 1 }) n2 fun h' hn2 hs2=>?_
 have wi:PySem.Within (fun z=>if z = f then some u else (fun _=>none) z) [f]:=fun z hz=>by
  by_cases q:z = f
  ·rw [q];simp
  ·exact absurd (if_neg q) hz
 obtain ⟨oD,esD,epD,hoD,hdD,hcD⟩:=hn2.count wi
 refine wpAny_bind (wpAny_lookBehind hoD (by rw [hdD];exact pastItsLine_dict (Nat.le_trans hcD (by rw [List.length_singleton,sizeLine_eq];omega))) ?_)
 refine wpAny_pure (h _ s.heap.objs.size (I.hok.fresh (Nat.le_refl _)) ?_)
 have I3:=I2.write (x:=s.heap.objs.size) (e:=s.heap.objs.size) (o:=XD s.heap.objs.size [(f,y)]) (h':=h') (t':=s.toks + 1 + 1) (by rw [Qa6 ne,Qa3];exact True.intro) (.inl rfl)
  (fun b q hb z=>(hs2.2 b hb).trans z) ⟨_,hoD⟩ (XD.mk hn2 (fun g=>?_) wi (by simp))
 ·have e4:upd (upd (upd H s.heap.objs.size (XD s.heap.objs.size [])) x (XO x C (some s.heap.objs.size) tb)) s.heap.objs.size (XD s.heap.objs.size [(f,y)]) = upd (upd H s.heap.objs.size (XD s.heap.objs.size [(f,y)])) x (XO x C (some s.heap.objs.size) tb):=by
   funext b
   unfold upd
   by_cases q1:b = s.heap.objs.size
   ·have q2 : ¬ b = x:=fun z=>ne (q1.symm.trans z)
    rw [if_pos q1,if_neg q2,if_pos q1]
   ·rw [if_neg q1,if_neg q1]
    by_cases q2:b = x
    ·rw [if_pos q2,if_pos q2]
    ·rw [if_neg q2,if_neg q2,if_neg q1]
  rw [e4] at I3
  exact I3
 ·show RelO (List.lookup g [(f,y)]) (if g = f then some u else none)
  by_cases q:g = f
  ·have hb:(g == f) = true:=beq_iff_eq.mpr q
   simp only [List.lookup,hb,if_pos q]
   exact ry
  ·have hb:(g == f) = false:=beq_eq_false_iff_ne.mpr q
   simp only [List.lookup,hb,if_neg q]
   exact True.intro
theorem Qs3 {b:Bool} {Q:Value→Shared→Prop} (I:Inv X pins σ H s) (ex:H x = some (XO x C (some dx) tb)) (ed:H dx = some (XD dx fs)) (c:ECl X.K C) (n:Qah X.K C f) (l:fs.lookup f = some v)
  (h:∀ u s',Inv X pins σ H s'→RelV v u→Q u s'):wpAny (model X.prog X.w) A (getAttr (.ref x) f b) Q E s:=by
 obtain ⟨t,hx⟩:=XO.get I.hok ex
 obtain ⟨mA,hn,r,wi,_⟩:=XD.get I.hok ed
 obtain ⟨od,hod,hlk⟩:=Qgg hn
 obtain ⟨u,hu,ru⟩:=RelO.some_of (v:=v) (o:=mA f) (by rw [← l];exact r f)
 have J:PySem.W.InstAt s.heap x { cls:=.ref C,dict:=some dx,data:=.fields #[.ref t,tb, .none, .none, .bool false, .none] } C (some od):=⟨hx,rfl,rfl,hod⟩
 have FB:=PySem.F.attrBase_Exception
 have k:∀ b:Bool,(b && onTheHeap (Value.builtin "BaseException.__getattribute__")) = false:=fun b=>by cases b <;> rfl
 have L0:=J.type (M:=model X.prog X.w)
 have L1:=PySem.W.looks_findIn (M:=model X.prog X.w) I.kIn c.ga
 have L2:=PySem.W.looks_findIn (M:=model X.prog X.w) I.kIn c.gx
 have L3:=PySem.W.looks_find (M:=model X.prog X.w) I.kIn J (PySem.W.findObj_own c.hd n rfl (by rw [hlk,hu]))
 have sub:=Qpq (prog:=X.prog) (w:=X.w) (T := "BaseException") I.kIn J c fun l e=>(Qdc e).2.1
 unfold getAttr getAttrBy
 refine wpAny_bind (wpAny_mkText (wpAny_holding (wpAny_bind (L0.here (s:={ s with toks:=s.toks + 1 }) (wpAny_bind (L1.here (s:={ s with toks:=s.toks + 1 }) ?_))))))
 show wpAny _ _ (getAttrByItsOwn _ _ _ _ _ _) _ _ _
 unfold getAttrByItsOwn
 refine wpAny_bind (L2.here (s:={ s with toks:=s.toks + 1 }) (wpAny_bind (wpAny_attempt (wpAny_holding ?_))))
 unfold callGetattribute
 rw [k]
 unfold boundAndCalled
 rw [FB.ga.bind]
 refine wpAny_bind (wpAny_pure (wpAny_call (codeAny_call_builtin FB.ga.plain PySem.F.entry_bexc_ga (@PySem.W.check_slot (model X.prog X.w) _ _ { s with toks:=s.toks + 1 } "BaseException.__getattribute__" "BaseException" "__getattribute__" (.ref x) [.str f s.toks] [] _ (by decide +kernel) (by decide +kernel) sub (PySem.F.args_bexc_ga (.ref x) (.str f s.toks)) ?_))))
 unfold Builtin.«object.__getattribute__»
 refine wpAny_bind (wpAny_pure (wpAny_bind (wpAny_pure (wpAny_bind (L0.here (s:={ s with toks:=s.toks + 1 }) (wpAny_bind (L3.here (s:={ s with toks:=s.toks + 1 }) ?_)))))))
 refine wpAny_pure ?_
 show wpAny _ _ (handedOut u) _ _ _
 rw [PySem.W.handedOut_of (Qjo ru)]
 exact wpAny_pure (h u _ (I.tok _) ru)
end
end L2
end
section
namespace L2
open PySem PySem.Spec PyProof.Rows
abbrev Qfl (C:Addr) (d:Option Addr) (t:Addr) (tb:Value):Obj:={ cls:=.ref C,dict:=d,data:=.fields #[.ref t,tb, .none, .none, .bool false, .none] }
def TbAt (h:Heap) (T:Addr) (fl:Value):Prop:=∃ o ts,h.get? T = some o∧o.data = .fields ts∧ts[3]? = some fl
def XT (T:Addr):HO:=.ext fun h=>TbAt h T .none
theorem TbAt.at {h h':Heap} {T:Addr} {fl:Value} (x:TbAt h T fl) (k:∀ o,h.get? T = some o→h'.get? T = some o):TbAt h' T fl:=let ⟨o,ts,e,d,r⟩:=x; ⟨o,ts,k o e,d,r⟩
theorem XT.mk {P:Program} {w:World} {H:Hp} {h:Heap} {T:Addr} (x:TbAt h T .none):Qcg P w H h T (XT T):=⟨x,let ⟨o,_,e,_⟩:=x; ⟨o,e⟩,fun _ _ q k=>q.at k⟩
theorem XT.get {P:Program} {w:World} {H:Hp} {h:Heap} {T:Addr} (hok:HOk P w H h) (e:H T = some (XT T)):TbAt h T .none:=(hok T _ e).1
structure Gone (l:List Addr) (e:Addr) (C:Addr) (d:Option Addr) (t:Addr) (fl:Value) (h h':Heap) (T:Addr):Prop where
 exc:h'.get? e = some (Qfl C d t (.ref T))
 tb:TbAt h' T fl
 new:h.get? T = none
 keep:∀ b o,b ≠ e→b ∉ l→h.get? b = some o→h'.get? b = some o
 slot:∀ b o,b ≠ e→h.get? b = some o→∃ sl,h'.get? b = some { o with slots:=sl }
section
variable {M : Model} {A : Around} {E : Value → Shared → Prop} {s : Shared} {base : Heap} {env : Env} {outer : List Env} {L e C t : Addr} {d : Option Addr} {tb head : Value} {hadNext : Bool} {Q : Unit → Shared → Prop}
theorem Qpa {l:List Env} {b:Addr} {o:Obj} {vs:Array Value} {h:Heap} (hl:h.FunFrames base l) (hb:h.get? b = some o) (hd:o.data = .fields vs):b ∉ l.filterMap (·.frame):=fun hm=>by
 obtain ⟨_,o',ho,hnf⟩:=hl.mem hm
 rw [hb] at ho
 cases ho
 exact hnf vs hd
theorem Qjs (hfr:A.frames = some (env :: outer)) (hl:s.heap.FunFrames base (env :: outer)) (hf:env.frame = some L) (he:s.heap.get? e = some (Qfl C d t tb))
  (h:∀ h' T,Gone ((env :: outer).filterMap (·.frame)) e C d t (rawInt L) s.heap h' T→Q () { s with heap:=h' }) :
  wpAny M A (do let a ← frameOf env;let pl ← entryPlaceOf L hadNext;let b ← EntryCells.newEntry head a .none (rawInt L) .none pl;setField (.ref e) 1 b) Q E s:=by
 have hene:=Qpa hl he rfl
 refine wpAny_bind (wpAny_frameOf_fun hfr hl hf fun h1 hs1=>?_)
 refine wpAny_bind (wpAny_entryPlaceOf fun pl hpl=>?_)
 unfold EntryCells.newEntry newFields
 refine wpAny_bind (wpAny_newObj_type ?_ (hpl.sizeOk5 _ _ _ _ _))
 have he1:h1.get? e = some (Qfl C d t tb):=(hs1.2.1 e hene).trans he
 have lt1:=Heap.lt_size he1
 have hTe:h1.objs.size ≠ e:=Nat.ne_of_gt lt1
 have he2:=Heap.get?_push_of_some (h:=h1) { cls:=.type "traceback",dict:=none,data:=.fields ([head, .ref L, .none,rawInt L, .none] ++ (if pl.isEmpty then List.replicate 6 Value.none else pl)).toArray } he1
 have hT2:=(Heap.get?_update_other (h1.push { cls:=.type "traceback",dict:=none,data:=.fields ([head, .ref L, .none,rawInt L, .none] ++ (if pl.isEmpty then List.replicate 6 Value.none else pl)).toArray }) (Obj.mapFields (·.setIfInBounds 1 (Value.ref h1.objs.size))) (Ne.symm hTe)).trans (Heap.get?_push_size h1 rfl)
 refine wpAny_setField he2 rfl (Nat.succ_lt_succ (Nat.succ_pos _)) (h _ h1.objs.size ⟨?_,⟨_,_,hT2,rfl,?_⟩,Heap.get?_none_of_le (Nat.le_of_eq hs1.1.symm),fun b o hbe hbl hb=>?_,fun b o hbe hb=>?_⟩)
 ·exact Heap.get?_update_self _ he2 rfl
 ·rcases hpl with rfl | ⟨_,_,_,_,_,_,_,rfl⟩ <;> simp
 ·rw [Heap.get?_update_other _ _ (Ne.symm hbe)]
  exact Heap.get?_push_of_some _ ((hs1.2.1 b hbl).trans hb)
 ·obtain ⟨sl,q⟩:=hs1.2.2 b o hb
  refine ⟨sl,?_⟩
  rw [Heap.get?_update_other _ _ (Ne.symm hbe)]
  exact Heap.get?_push_of_some _ q
theorem Qis {h:Heap} {T:Addr} (x:TbAt h T .none) (b:Addr):(h.update T (Obj.mapFields (·.setIfInBounds 3 Value.none))).get? b = h.get? b:=by
 obtain ⟨o,ts,e,hd,h3⟩:=x
 by_cases q:b = T
 ·subst q
  have e2:Obj.mapFields (·.setIfInBounds 3 Value.none) o = o:=by
   obtain ⟨c,d,dt,sl⟩:=o
   cases hd
   show ({ cls:=c,dict:=d,data:=.fields (ts.setIfInBounds 3 Value.none),slots:=sl }:Obj) = { cls:=c,dict:=d,data:=.fields ts,slots:=sl }
   have e3:ts.setIfInBounds 3 Value.none = ts:=by
    apply Array.ext
    ·simp
    ·intro i h1 h2
     rw [Array.getElem_setIfInBounds]
     by_cases hi : 3 = i
     ·subst hi
      rw [if_pos rfl]
      have:=(Array.getElem?_eq_some_iff.mp h3)
      obtain ⟨_,r⟩:=this
      exact r.symm
     ·rw [if_neg hi]
     all_goals assumption
   rw [e3]
  have:=Heap.get?_update_self (Obj.mapFields (·.setIfInBounds 3 Value.none)) e (by rw [e2];exact (Heap.get?_some_iff.mp e).2)
  rw [this,e2,e]
 ·exact Heap.get?_update_other _ _ (Ne.symm q)
theorem Qrd (hfr:A.frames = some (env :: outer)) (hl:s.heap.FunFrames base (env :: outer)) (hf:env.frame = some L) (he:s.heap.get? e = some (Qfl C d t tb))
  (htb:tb = .none ∨ ∃ T,tb = .ref T∧TbAt s.heap T .none)
  (h:∀ h' T,Gone ((env :: outer).filterMap (·.frame)) e C d t (rawInt L) s.heap h' T→Q () { s with heap:=h' }):wpAny M A (noteFrame (.ref e) env) Q E s:=by
 unfold noteFrame
 simp only [hf]
 refine wpAny_bind (wpAny_field he rfl (x:=tb) rfl ?_)
 rcases htb with rfl | ⟨T,rfl,oT,ts,hT,hdT,h3⟩
 ·rw [if_neg (by decide)]
  exact Qjs hfr hl hf he h
 ·rw [if_pos (show (Value.ref T != Value.none) = true from by simp)]
  refine wpAny_bind (wpAny_field hT hdT h3 ?_)
  rw [if_neg (show ¬ ((Value.none == rawInt L) = true) from by simp [rawInt])]
  refine wpAny_bind (wpAny_setField hT hdT (Array.getElem?_eq_some_iff.mp h3).1 ?_)
  have other:=Qis ⟨oT,ts,hT,hdT,h3⟩
  refine Qjs hfr (hl.of_keeps fun b o hb hnf=>⟨o,(other b).trans hb,rfl⟩) hf ((other e).trans he) fun h' T' G=>h h' T' ⟨G.exc,G.tb,(other T').symm.trans G.new,fun b o h1 h2 h3=>G.keep b o h1 h2 ((other b).trans h3),fun b o h1 h3=>G.slot b o h1 ((other b).trans h3)⟩
theorem Qnp {T:Addr} {fl:Value} (he:s.heap.get? e = some (Qfl C d t (.ref T))) (hne:T ≠ e) (hT:TbAt s.heap T fl)
  (h:∀ h',h'.get? e = some (Qfl C d t (.ref T))→TbAt h' T .none→(∀ b o,b ≠ T→s.heap.get? b = some o→h'.get? b = some o)→Q () { s with heap:=h' }):wpAny M A (setFlight (.ref e) none) Q E s:=by
 obtain ⟨oT,ts,hT,hdT,h3⟩:=hT
 have lt:=(Array.getElem?_eq_some_iff.mp h3).1
 unfold setFlight
 refine wpAny_bind (wpAny_field he rfl (x:=.ref T) rfl ?_)
 rw [if_pos (show (Value.ref T != Value.none) = true from by simp)]
 have hd3:=Obj.data_mapFields hdT (·.setIfInBounds 3 Value.none)
 refine wpAny_setField hT hdT lt (h _ ?_ ⟨_,_,Heap.get?_update_self _ hT (Obj.isFreed_of_fields hd3),hd3,?_⟩ fun b o hb e=>?_)
 ·rw [Heap.get?_update_other _ _ hne];exact he
 ·rw [Array.getElem?_setIfInBounds_self_of_lt lt]
 ·rw [Heap.get?_update_other _ _ (Ne.symm hb)];exact e
theorem Qhg (hfr:A.frames = some (env :: outer)) (hl:s.heap.FunFrames base (env :: outer)) (hf:env.frame = some L) (he:s.heap.get? e = some (Qfl C d t tb))
  (htb:tb = .none ∨ ∃ T,tb = .ref T∧TbAt s.heap T .none)
  (h:∀ h' T,Gone ((env :: outer).filterMap (·.frame)) e C d t .none s.heap h' T→Q () { s with heap:=h' }) :
  wpAny M A (noteFrame (.ref e) env) (fun _ s'=>wpAny M A (setFlight (.ref e) none) Q E s') E s:=by
 refine Qrd hfr hl hf he htb fun h1 T G=>?_
 have ne:T ≠ e:=fun q=>by have:=G.new;rw [q,he] at this;cases this
 refine Qnp (s:={ s with heap:=h1 }) G.exc ne G.tb fun h' e1 e2 k=>h h' T ⟨e1,e2,G.new,fun b o h1 h2 h3=>k b o (fun q=>?_) (G.keep b o h1 h2 h3),fun b o h1 h3=>?_⟩
 ·have:=G.new;rw [← q,h3] at this;cases this
 ·obtain ⟨sl,q⟩:=G.slot b o h1 h3
  exact ⟨sl,k b _ (fun q=>by have:=G.new;rw [← q,h3] at this;cases this) q⟩
theorem Qph (hfr:A.frames = some (env :: outer)) (hl:s.heap.FunFrames base (env :: outer)) (hf:env.frame = some L) (he:s.heap.get? e = some (Qfl C d t tb))
  (htb:tb = .none ∨ ∃ T,tb = .ref T∧TbAt s.heap T .none)
  (h:∀ h' T,Gone ((env :: outer).filterMap (·.frame)) e C d t .none s.heap h' T→Q () { s with heap:=h' }):wpAny M A (leaving env (.ref e)) Q E s:=by
 unfold leaving
 exact wpAny_bind (Qhg hfr hl hf he htb h)
end
end L2
end
section
namespace L2
open PySem PySem.Spec PyProof.Rows
def one (dx:Addr) (fs:List (Str × V)):Hp:=fun b=>if b = dx then some (XD dx fs) else none
theorem Qt6 {dx:Addr} {fs:List (Str × V)}:one dx fs dx = some (XD dx fs):=if_pos rfl
structure Fly (H:Hp) (x C dx:Addr) (tb:Value) (fs:List (Str × V)):Prop where
 exc:H x = some (XO x C (some dx) tb)
 tb:tb = .none ∨ ∃ T,tb = .ref T∧T ≠ x∧H T = some (XT T)
 dct:H dx = some (XD dx fs)
 ne:dx ≠ x
def CX1 (P:Program) (w:World):CXT:=fun outer H s E e s'=>∃ (x C dx T:Addr) (fs:List (Str × V)) (H':Hp),e = .ref x∧s'.os = s.os∧AllBare s'.gens∧Un (frs outer) [] H H' s.heap s'.heap∧HOk P w H' s'.heap ∧
 Fly H' x C dx (.ref T) fs∧E (.ref C) (some dx) (one dx fs)
section
variable {P : Program} {w : World} {K : PySem.W.Frag} {mg : Str → Option Value} {base : Heap} {N : List Str} {qual : Str} {scope : Scope} {f : Addr} {cd : Value} {A : Around} {outer : List Env} {s0 s : Shared} {H0 H : Hp} {E : XK}
 {pins:List (Addr × Obj)} {σ : St} {x C dx:Addr} {tb:Value} {fs:List (Str × V)}
theorem Qhk (I:Inv (cxOf (CX1 P w) P w K mg base N qual scope f cd A outer s0 H0 E) pins σ H s) (F:Fly H x C dx tb fs) (hE:E (.ref C) (some dx) (one dx fs)):(cxOf (CX1 P w) P w K mg base N qual scope f cd A outer s0 H0 E).xe (.ref x) s:=by
 obtain ⟨t,hx⟩:=XO.get I.hok F.exc
 have fr:(A.deeper (envOfC qual scope s0.heap.objs.size f cd)).frames = some (envOfC qual scope s0.heap.objs.size f cd :: outer):=I.ok.frames
 have st:s.heap.FunFrames base (envOfC qual scope s0.heap.objs.size f cd :: outer):=I.stack
 have stf:∀ b ∈ frs (envOfC qual scope s0.heap.objs.size f cd :: outer),H b = none:=I.stkFree
 have sts:∀ b ∈ frs (envOfC qual scope s0.heap.objs.size f cd :: outer),b ∈ s0.heap.objs.size :: frs outer:=I.stkSub
 show wpAny (model P w) (A.deeper (envOfC qual scope s0.heap.objs.size f cd)) (leaving (envOfC qual scope s0.heap.objs.size f cd) (.ref x)) _ _ s
 refine Qph (base:=base) fr st rfl hx ?_ fun h' T G=>?_
 ·rcases F.tb with e | ⟨T,e,_,eT⟩
  ·exact .inl e
  ·exact .inr ⟨T,e,XT.get I.hok eT⟩
 have hT0:H T = none:=by
  cases q:H T with
  | none=>rfl
  | some o =>
   have lt:=I.hok.lt q
   obtain ⟨oo,hoo⟩ : ∃ oo,s.heap.get? T = some oo:=by
    have:=I.hok T o q
    cases o with
    | lst xs=>obtain ⟨_,_,_,_,e⟩:=this;exact ⟨_,e⟩
    | tup xs=>obtain ⟨_,_,_,o,e,_⟩:=this;exact ⟨_,e⟩
    | dK kvs=>obtain ⟨_,_,_,_,o,_,_,e,_⟩:=this;exact ⟨_,e⟩
    | dT kvs=>obtain ⟨_,_,_,_,o,_,_,e,_⟩:=this;exact ⟨_,e⟩
    | set S n=>obtain ⟨o,_,_,_,e,_⟩:=this;exact ⟨_,e⟩
    | ins C dx fs=>obtain ⟨_,_,_,e,_⟩:=this;exact ⟨_,e⟩
    | own y=>obtain ⟨_,e⟩:=this;exact ⟨_,e⟩
    | xd fs=>obtain ⟨_,⟨_,_,_,e,_⟩,_⟩:=this;exact ⟨_,e⟩
    | rng lo hi=>obtain ⟨_,_,_,e⟩:=this;exact ⟨_,e⟩
    | frz ob u=>obtain ⟨e,_⟩:=this;exact ⟨_,e⟩
    | tbl ps=>exact ⟨_,(show s.heap.get? T = some _ from this)⟩
    | met f y=>exact ⟨_,(show s.heap.get? T = some _ from this)⟩
    | ext φ=>obtain ⟨_,⟨_,e⟩,_⟩:=this;exact ⟨_,e⟩
   rw [G.new] at hoo;cases hoo
 have nxT:x ≠ T:=Qa7 F.exc hT0
 have ndT:dx ≠ T:=Qa7 F.dct hT0
 have hI:Un (frs outer) [] H0 H s0.heap s.heap:=I.base
 have above:∀ b o,s0.heap.get? b = some o→b ≠ s0.heap.objs.size:=fun b o e=>Nat.ne_of_lt (Heap.lt_size e)
 have sne:∀ b,H b = none→b ≠ x:=fun b n z=>by rw [z,F.exc] at n;cases n
 refine ⟨x,C,dx,T,fs,upd (upd H x (XO x C (some dx) (.ref T))) T (XT T),rfl,I.os,I.bare,⟨fun b o e n hb hx'=>?_,fun b o e n hb hx'=>?_,fun b o e n hx'=>?_,fun b o e hx'=>?_,fun b xs e=>?_,fun b o u e=>?_,fun b ps e=>?_⟩,fun b u e=>?_,⟨?_, .inr ⟨T,rfl,Ne.symm nxT,Qa3⟩,?_,F.ne⟩,hE⟩
 ·have e1:=hI.keep b o e n hb hx'
  have n1:=hI.free b o e n hx'
  exact G.keep b o (sne b n1) (fun z=>(List.mem_cons.mp (sts b z)).elim (above b o e) hb) e1
 ·obtain ⟨sl,e1⟩:=hI.slot b o e n hb hx'
  obtain ⟨sl',e2⟩:=G.slot b _ (sne b (hI.free b o e n hx')) e1
  exact ⟨sl',e2⟩
 ·have n1:=hI.free b o e n hx'
  obtain ⟨o',e1⟩:=hI.there b o e hx'
  have nT:b ≠ T:=fun z=>by rw [z,G.new] at e1;cases e1
  rw [Qa6 nT,Qa6 (sne b n1)];exact n1
 ·obtain ⟨o',e1⟩:=hI.there b o e hx'
  by_cases z:b = x
  ·rw [z];exact ⟨_,G.exc⟩
  ·obtain ⟨sl,e2⟩:=G.slot b o' z e1
   exact ⟨_,e2⟩
 ·have e1:=hI.tups b xs e
  rw [Qa6 (Qa7 e1 hT0),Qa6 (Qc2 e1 F.exc (by intro q;cases q))];exact e1
 ·have e1:=hI.frzs b o u e
  rw [Qa6 (Qa7 e1 hT0),Qa6 (Qc2 e1 F.exc (by intro q;cases q))];exact e1
 ·obtain ⟨more,e1⟩:=hI.tbls b ps e
  exact ⟨more,by rw [Qa6 (Qa7 e1 hT0),Qa6 (Qc2 e1 F.exc (by intro q;cases q))];exact e1⟩
 ·by_cases z:b = T
  ·subst z
   rw [Qa3] at e;cases e
   exact XT.mk G.tb
  ·rw [Qa6 z] at e
   by_cases z2:b = x
   ·subst z2
    rw [Qa3] at e;cases e
    exact XO.mk G.exc
   ·rw [Qa6 z2] at e
    refine (I.hok b u e).stay (fun c v hc q=>G.keep c v ?_ ?_ q) (fun c q=>?_) fun c xs q=>?_
    ·rcases hc with hc | hc
     ·rw [hc];exact z2
     ·exact Qc2 hc F.exc (by intro q;cases q)
    ·intro hm
     have:=stf c hm
     rcases hc with hc | hc
     ·rw [hc,e] at this;cases this
     ·rw [hc] at this;cases this
    ·rw [Qa6 (Qa7 q hT0),Qa6 (Qc2 q F.exc (by intro q;cases q))];exact q
    ·rw [Qa6 (Qa7 q hT0),Qa6 (Qc2 q F.exc (by intro q;cases q))];exact q
 ·rw [Qa6 nxT,Qa3]
 ·rw [Qa6 ndT,Qa6 F.ne];exact F.dct
theorem Qbq:Qcr (CX1 P w) (cxOf (CX1 P w) P w K mg base N qual scope f cd A outer s0 H0 E) E:=fun pins σ H s e s' I h=>by
 obtain ⟨x,C,dx,T,fs,H',rfl,os,bare,un,hok,F,hE⟩:=h
 exact Qhk (I.call' (ch:=[]) os un hok bare fun b z=>absurd z (by simp)) F hE
theorem own1 {CX:CXT}:PassesOwn (model P w) (cxOf CX P w K mg base N qual scope f cd A outer s0 H0 E).A (cxOf CX P w K mg base N qual scope f cd A outer s0 H0 E).env (cxOf CX P w K mg base N qual scope f cd A outer s0 H0 E).xe:=PassesOwn.leaving
end
section
variable {X : Cx} {pins : List (Addr × Obj)} {σ : St} {H : Hp} {s : Shared} {x C dx f : Addr} {tb : Value} {fs : List (Str × V)}
theorem Inv.exc (I:Inv X pins σ H s) (us:List Value):Inv X pins σ (upd H (s.heap.objs.size + 1) (XO (s.heap.objs.size + 1) C none .none)) { s with heap:=(s.heap.push (Qe8 us)).push (Qco C s.heap.objs.size) }:=by
 have I1:=I.kept (h':=s.heap.push (Qe8 us)) (t':=s.toks) fun b u q=>Heap.get?_push_of_some _ q
 have e2:((s.heap.push (Qe8 us)).push (Qco C s.heap.objs.size)).get? (s.heap.objs.size + 1) = some (Qco C s.heap.objs.size):=by
  have:=Heap.get?_push_size (s.heap.push (Qe8 us)) (o:=Qco C s.heap.objs.size) rfl
  rwa [Heap.size_push] at this
 exact I1.laid (a:=s.heap.objs.size + 1) (o:=XO (s.heap.objs.size + 1) C none .none) (t':=s.toks) (fun b u q=>Heap.get?_push_of_some _ q) (Nat.le_of_eq (Heap.size_push _ _)) (XO.mk e2)
structure EMk (K:PySem.W.Frag) (C f:Addr):Prop where
 cl:ECl K C
 init:PySem.W.findIn K (.ref C) "__init__" = some (some (.ref f))
 fn:PySem.W.isFn K (.ref f) = true
 kp:PySem.W.keepIn K (.ref C) = true
theorem Qoq {CX:CXT} {k:Nat} {fd:FuncData} {ps:List Str} {sp:Sp} {E:XK} {Q:VK} {us:List Value} {vs:List V} (M:EMk X.K C f) (F:FnOk X.prog X.w X.K X.mg X.base CX k f fd ps sp) (hr:Room (k + 1) X.A) (hb:Qal X.K fd ps [])
  (hx:Qcr CX X E) (I:Inv X pins σ H s) (r:Vals vs us) (hlen:vs.length ≤ 1000)
  (h:∀ x,H x = none→sp (.ref x :: vs) (upd H x (XO x C none .none)) (fun v H2=>v = .non∧Q (.ref x) H2) E) :
  wpAny (model X.prog X.w) X.A (call (.ref C) us) (EP X pins σ Q) X.xe s:=by
 have hq:=h (s.heap.objs.size + 1) (I.hok.fresh (Nat.le_succ _))
 have I2:=Inv.exc (C:=C) I us
 have r2:Vals (V.ref (s.heap.objs.size + 1) :: vs) (Value.ref (s.heap.objs.size + 1) :: us):=.cons rfl r
 have hl:(Value.ref (s.heap.objs.size + 1) :: us ++ []).length = ps.length:=by
  rw [List.append_nil,← r2.length,F.len _ _ _ _ hq]
 have hb2:=hb { s with heap:=(s.heap.push (Qe8 us)).push (Qco C s.heap.objs.size) } (Value.ref (s.heap.objs.size + 1) :: us) I2.kIn hl
 rw [List.append_nil] at hb2
 refine wpAny_call (Qs2 I.kIn M.cl.ex M.init (beq_iff_eq.mp M.fn) (by rw [← r.length];exact Nat.le_trans hlen (by decide)) (codeAny_mono (F.run _ X.stack _ _ ⟨Value.ref (s.heap.objs.size + 1) :: us,[]⟩ (Value.ref (s.heap.objs.size + 1) :: us) _ _ E (hr.make C us [])
  (I2.env0.make C us []) hb2 r2 hq) fun r s' hq'=>?_))
 cases r with
 | error e=>exact hx pins σ _ _ e s' I2 hq'
 | ok fl =>
  cases fl with
  | ret u =>
   obtain ⟨v,H',I3,rv,ev,q3⟩:=I2.after hq'
   subst ev
   exact ⟨rv,⟨V.ref (s.heap.objs.size + 1),H',I3,rfl,q3⟩⟩
  | next=>exact False.elim hq'
  | brk=>exact False.elim hq'
  | cont=>exact False.elim hq'
def tExc (C:Addr) (sp:Sp) (E:XK) (t:TA):TE:=fun σ H Q=>t σ H fun vs H1=>vs.length ≤ 1000∧∀ x,H1 x = none→sp (.ref x :: vs) (upd H1 x (XO x C none .none)) (fun v H2=>v = .non∧Q (.ref x) H2) E
theorem Qx0 {CX:CXT} {k:Nat} {fd:FuncData} {ps:List Str} {sp:Sp} {E:XK} {n:Str} {p pos:Pos} {e:Expr} {es:List Expr} {t:TA} (M:EMk X.K C f) (F:FnOk X.prog X.w X.K X.mg X.base CX k f fd ps sp) (hr:Room (k + 1) X.A) (hg:Gl X n) (hm:X.mg n = some (.ref C)) (hb:Qal X.K fd ps [])
  (hx:Qcr CX X E) (ha:PA X (e :: es) t) (hdb:(n == ("__debug__" : Str)) = false:=by decide) (he:starEach (e :: es) X.env = (false,eval e X.env) :: starEach es X.env:=by rfl) (hpl:(backTo pos (starEach es X.env)).any (·.1) = false:=by rfl) :
  PE X (.Call (.Name n p) (e :: es) [] pos) (tExc C sp E t):=by
 intro pins s σ H Q I h
 refine wpAny_Call_Name_kw (Qdt I hg hm ?_ hdb)
 refine PySem.W.callWith_K (h₀:=X.base) I.ok.mod.kin M.kp (thn (ha pos pins s σ H _ I h) fun us s1 ⟨vs,H1,I1,r,q⟩=>⟨I1.kIn,?_⟩) he hpl
 exact Qoq M F hr hb hx I1 r q.1 q.2
theorem Qu5 {CX:CXT} {k:Nat} {fd:FuncData} {ps:List Str} {sp:Sp} {E:XK} {n:Str} {p pos:Pos} (M:EMk X.K C f) (F:FnOk X.prog X.w X.K X.mg X.base CX k f fd ps sp) (hr:Room (k + 1) X.A) (hg:Gl X n) (hm:X.mg n = some (.ref C)) (hb:Qal X.K fd ps [])
  (hx:Qcr CX X E) (hdb:(n == ("__debug__" : Str)) = false:=by decide):PE X (.Call (.Name n p) [] [] pos) (tExc C sp E tNil):=by
 intro pins s σ H Q I h
 refine wpAny_Call_Name_kw (Qdt I hg hm ?_ hdb)
 exact PySem.W.callWith_K0 I.kIn M.kp (Qoq (us:=[]) M F hr hb hx I .nil h.1 h.2)
def Qlz (X:Cx) (E:XK):Prop:=∀ (pins:List (Addr × Obj)) (σ : St) (H:Hp) (s:Shared) (x C dx:Addr) (tb:Value) (fs:List (Str × V)),Inv X pins σ H s→Fly H x C dx tb fs→E (.ref C) (some dx) (one dx fs)→X.xe (.ref x) s
theorem Qc7 {P:Program} {w:World} {K:PySem.W.Frag} {mg:Str→Option Value} {base:Heap} {N:List Str} {qual:Str} {scope:Scope} {f:Addr} {cd:Value} {A:Around} {outer:List Env} {s0:Shared} {H0:Hp} {E:XK} :
  Qlz (cxOf (CX1 P w) P w K mg base N qual scope f cd A outer s0 H0 E) E:=fun _ _ _ _ _ _ _ _ _ I F h=>Qhk I F h
def Qo6 (K:PySem.W.Frag) (E:XK) (te:TE):TS:=fun D σ H=>te σ H fun v H1=>∃ x C dx fs,v = .ref x∧ECl K C∧Fly H1 x C dx .none fs∧E (.ref C) (some dx) (one dx fs)
theorem Qlb {E:XK} {e:Expr} {te:TE} {pos:Pos} (hc:X.calm = true) (hR:Qlz X E) (he:PE X e te):PS X (.Raise (some e) none pos) (Qo6 X.K E te):=by
 intro pins s σ H D I h
 rw [arm_exec_Raise]
 refine wpAny_bind (wpAny_standAt ?_)
 show wpAny _ _ (raiseStmt X.env (some (do let v ← eval e X.env;standAt pos;pure v)) none) _ _ s
 unfold raiseStmt
 refine wpAny_bind (wpAny_bind (wpAny_mono (he pins s σ H _ I h) (fun v s1 ⟨x,H1,I1,rx,q⟩=>wpAny_bind (wpAny_standAt (wpAny_pure ?_))) fun _ _ z=>z))
 obtain ⟨a,C,dx,fs,rfl,c,F,hE⟩:=q
 obtain rfl:v = Value.ref a:=rx
 obtain ⟨t,hx⟩:=XO.get I1.hok F.exc
 obtain ⟨nm,q,N,bs,bm,hdct,sn,sub,ab,col,dd,k0,k1,k2,k3,k5,hC,e1,c1,c2,c3,c4⟩:=Qls I1.kIn c.ex
 have hcB:(Value.ref C :: bm).contains (.type "BaseException") = true:=by rw [List.contains_cons,c2,Bool.or_true]
 have hE':=hR pins σ H1 s1 a C dx _ fs I1 F hE
 have hh:=I.ok.hd hc
 obtain ⟨hp,g,d,tk,os⟩:=s1
 repeat (first | with_reducible refine wpAny_loadPart_at hx ?_ | with_reducible refine wpAny_loadPart_at hC ?_ | (with_reducible refine wpAny_isSubtype_exc hC ?_;rw [hcB]) | wp_step)
 exact wpAny_raiseNew_none hh hE'
end
end L2
end
section
namespace L2
open PySem PySem.Spec PyProof.Rows
section
variable {X : Cx} {pins : List (Addr × Obj)} {σ : St} {H : Hp} {s : Shared} {x C dx f : Addr} {tb : Value} {fs : List (Str × V)}
def sXF0 (K:PySem.W.Frag) (ta tv:TE) (f:Str):TS:=fun D σ H=>tv σ H fun y H1=>ta σ H1 fun v H2=>∃ x C tb,v = .ref x∧H2 x = some (XO x C none tb)∧ECl K C∧Qah K C f ∧
 ∀ dx,H2 dx = none→D.nx σ (upd (upd H2 dx (XD dx [(f,y)])) x (XO x C (some dx) tb))
def sXF (K:PySem.W.Frag) (ta tv:TE) (f:Str):TS:=fun D σ H=>tv σ H fun y H1=>ta σ H1 fun v H2=>∃ x C dx tb fs,v = .ref x∧H2 x = some (XO x C (some dx) tb)∧H2 dx = some (XD dx fs)∧dx ≠ x∧ECl K C∧Qah K C f∧fs.length < 1000 ∧
 D.nx σ (upd H2 dx (XD dx (putF f y fs)))
def tXF (K:PySem.W.Frag) (ta:TE) (f:Str):TE:=fun σ H Q=>ta σ H fun v H1=>∃ x C dx tb fs y,v = .ref x∧H1 x = some (XO x C (some dx) tb)∧H1 dx = some (XD dx fs)∧ECl K C∧Qah K C f∧fs.lookup f = some y∧Q y H1
theorem Qwt {o value:Expr} {f:Str} {pos pos':Pos} {ta tv:TE} (ha:PE X o ta) (hv:PE X value tv) (hs:swapsWith value (some (.Attribute o f pos')) pos.line X.env = pure false):PS X (.Assign [.Attribute o f pos'] value pos) (sXF0 X.K ta tv f):=by
 intro pins s σ H D I h
 refine plainObj_wpAny_Assign_Attribute (thn (hv pins s σ H _ I h) fun u s1 ⟨y,H1,I1,ry,q⟩=>thn (ha pins s1 σ H1 _ I1 q) fun ov s2 ⟨v,H2,I2,rx,x,C,tb,ex,ea,c,n,q2⟩=>?_) hs
 subst ex
 obtain rfl:ov = Value.ref x:=rx
 exact Qnt I2 ea c n ry fun s3 dx hd I3=>⟨σ,_,I3,q2 dx hd⟩
theorem ps_xf {o value:Expr} {f:Str} {pos pos':Pos} {ta tv:TE} (ha:PE X o ta) (hv:PE X value tv) (hs:swapsWith value (some (.Attribute o f pos')) pos.line X.env = pure false):PS X (.Assign [.Attribute o f pos'] value pos) (sXF X.K ta tv f):=by
 intro pins s σ H D I h
 refine plainObj_wpAny_Assign_Attribute (thn (hv pins s σ H _ I h) fun u s1 ⟨y,H1,I1,ry,q⟩=>thn (ha pins s1 σ H1 _ I1 q) fun ov s2 ⟨v,H2,I2,rx,x,C,dx,tb,fs,ex,ea,ed,ne,c,n,l,q2⟩=>?_) hs
 subst ex
 obtain rfl:ov = Value.ref x:=rx
 exact Qq5 I2 ea ed c n l ry ne fun s3 I3=>⟨σ,_,I3,q2⟩
theorem pe_xf {e:Expr} {f:Str} {pos:Pos} {ta:TE} (he:PE X e ta) (hb:attributeBase e f X.env (eval e X.env) = eval e X.env):PE X (.Attribute e f pos) (tXF X.K ta f):=by
 intro pins s σ H Q I h
 refine Qqi hb (thn (he pins s σ H _ I h) fun u s1 ⟨v,H1,I1,rx,x,C,dx,tb,fs,y,ex,ea,ed,c,n,l,q⟩=>?_)
 subst ex
 obtain rfl:u = Value.ref x:=rx
 exact Qs3 I1 ea ed c n l fun u' s2 I2 ru=>⟨y,H1,I2,ru,q⟩
structure Unb (K:PySem.W.Frag) (C:Addr) (m:Str) (f:Addr):Prop where
 rd:PySem.W.readsIn K C (.type "type") = true
 fc:PySem.W.findCls K (.ref C) (.type "type") m = some (.val (.ref f))
 sp:PySem.W.specialIn K (.ref C) "__getattribute__" = some (some (.builtin "type.__getattribute__"))
 kp:PySem.W.keepIn K (.ref f) = true
theorem Qfg {CX:CXT} {k:Nat} {fd:FuncData} {ps:List Str} {sp:Sp} {E:XK} {n m:Str} {p pos apos:Pos} {e:Expr} {es:List Expr} {t:TA} {pl:Sem Bool} (hg:Gl X n) (hmg:X.mg n = some (.ref C)) (hm:Unb X.K C m f) (F:FnOk X.prog X.w X.K X.mg X.base CX k f fd ps sp)
  (hr:Room k X.A) (hb:Qal X.K fd ps []) (hx:Qcr CX X E) (ha:PA X (e :: es) t) (hdb:(n == ("__debug__" : Str)) = false:=by decide)
  (hst:starEach (e :: es) X.env = (false,eval e X.env) :: starEach es X.env:=by rfl) (hpl:(backTo pos (starEach es X.env)).any (·.1) = false:=by rfl)
  (ht:eval (.Call (.Attribute (.Name n p) m apos) (e :: es) [] pos) X.env = (do
   let ov ← eval (.Name n p) X.env
   standAt apos.atName
   let (f,first) ← holding [ov] (getMethod ov m pl)
   callWith pos f first (backTo pos (starEach (e :: es) X.env)) (backToKw pos (keywordEach [] X.env))):=by rfl) :
  PE X (.Call (.Attribute (.Name n p) m apos) (e :: es) [] pos) (Qqw sp [] E t):=by
 intro pins s σ H Q I h
 refine PySem.W.methodCall_KW (pl:=pl) (Qdt I hg hmg ?_ hdb) ht
 refine PySem.W.method_cls I.kIn hm.sp (PySem.W.cls_value I.kIn hm.rd hm.fc rfl ?_)
 have I1:=I.tok (s.toks + 1)
 refine PySem.W.callWith_K (first:=[]) (h₀:=X.base) I.ok.mod.kin hm.kp (thn (ha pos pins _ σ H _ I1 h) fun us s2 ⟨vs,H2,I2,r,q2⟩=>⟨I2.kIn,?_⟩) hst hpl
 exact Qiv (us:=us) (vs:=vs) (dvs:=[]) (ds:=[]) F hr hb .nil hx I2 r q2
end
def subE (K:PySem.W.Frag) (C R:Addr):Bool:=(PySem.W.clsIn K C).any fun cd=>cd.mro.contains (.ref R)
abbrev Cx.held (X:Cx) (x:Addr):Cx:={ X with A:=X.A.mark (some (.ref x)),calm:=false,xe:=fun _ _=>False }
abbrev Cx.inTry (X:Cx) (pn:List (Addr × Obj)) (W:Value→Shared→Prop):Cx:={ X with pn:=pn,xe:=W }
section
variable {X : Cx} {pins : List (Addr × Obj)} {σ : St} {H : Hp} {s : Shared} {x C dx f : Addr} {tb : Value} {fs : List (Str × V)}
theorem Inv.held (I:Inv X pins σ H s) (x:Addr):Inv (X.held x) pins σ H s :=
 ⟨⟨I.ok.mod,I.ok.kind,I.ok.glob,I.ok.blt,I.ok.above,I.ok.inj,I.ok.has,I.ok.cab,fun z=>Bool.noConfusion z,I.ok.frames,I.ok.stk,I.ok.exf,I.ok.bs,I.ok.bsz,I.ok.noex,I.ok.exfs,I.ok.funs,I.ok.frf⟩,I.os,I.bare,I.base,I.loc,I.cell,I.free,I.freeC,I.pin,I.hok,I.len⟩
theorem Inv.unheld (hc:X.calm = true→X.A.handled = none) (I:Inv (X.held x) pins σ H s):Inv X pins σ H s :=
 ⟨⟨I.ok.mod,I.ok.kind,I.ok.glob,I.ok.blt,I.ok.above,I.ok.inj,I.ok.has,I.ok.cab,hc,I.ok.frames,I.ok.stk,I.ok.exf,I.ok.bs,I.ok.bsz,I.ok.noex,I.ok.exfs,I.ok.funs,I.ok.frf⟩,I.os,I.bare,I.base,I.loc,I.cell,I.free,I.freeC,I.pin,I.hok,I.len⟩
theorem Inv.inTry (I:Inv X pins σ H s) (W:Value→Shared→Prop):Inv (X.inTry (X.pn ++ pins) W) [] σ H s :=
 ⟨⟨I.ok.mod,I.ok.kind,I.ok.glob,I.ok.blt,I.ok.above,I.ok.inj,I.ok.has,I.ok.cab,I.ok.hd,I.ok.frames,I.ok.stk,I.ok.exf,I.ok.bs,I.ok.bsz,I.ok.noex,I.ok.exfs,I.ok.funs,I.ok.frf⟩,I.os,I.bare,I.base,I.loc,I.cell,I.free,I.freeC,fun p hp=>I.pin p (by rw [List.append_nil] at hp;exact hp),I.hok,I.len⟩
theorem Inv.unTry {W:Value→Shared→Prop} {pins':List (Addr × Obj)} (I:Inv (X.inTry (X.pn ++ pins) W) pins' σ H s):Inv X pins σ H s :=
 ⟨⟨I.ok.mod,I.ok.kind,I.ok.glob,I.ok.blt,I.ok.above,I.ok.inj,I.ok.has,I.ok.cab,I.ok.hd,I.ok.frames,I.ok.stk,I.ok.exf,I.ok.bs,I.ok.bsz,I.ok.noex,I.ok.exfs,I.ok.funs,I.ok.frf⟩,I.os,I.bare,I.base,I.loc,I.cell,I.free,I.freeC,fun p hp=>I.pin p (List.mem_append_left _ hp),I.hok,I.len⟩
theorem Qo1 {h:Heap} {T:Addr} (hok:HOk X.prog X.w H h) (e:h.get? T = none):H T = none:=by
 cases q:H T with
 | none=>rfl
 | some o =>
  have:=hok T o q
  have hoo:∃ oo,h.get? T = some oo:=by
   cases o with
   | lst xs=>obtain ⟨_,_,_,_,e⟩:=this;exact ⟨_,e⟩
   | tup xs=>obtain ⟨_,_,_,o,e,_⟩:=this;exact ⟨_,e⟩
   | dK kvs=>obtain ⟨_,_,_,_,o,_,_,e,_⟩:=this;exact ⟨_,e⟩
   | dT kvs=>obtain ⟨_,_,_,_,o,_,_,e,_⟩:=this;exact ⟨_,e⟩
   | set S n=>obtain ⟨o,_,_,_,e,_⟩:=this;exact ⟨_,e⟩
   | ins C dx fs=>obtain ⟨_,_,_,e,_⟩:=this;exact ⟨_,e⟩
   | own y=>obtain ⟨_,e⟩:=this;exact ⟨_,e⟩
   | xd fs=>obtain ⟨_,⟨_,_,_,e,_⟩,_⟩:=this;exact ⟨_,e⟩
   | rng lo hi=>obtain ⟨_,_,_,e⟩:=this;exact ⟨_,e⟩
   | frz ob u=>obtain ⟨e,_⟩:=this;exact ⟨_,e⟩
   | tbl ps=>exact ⟨_,(show h.get? T = some _ from this)⟩
   | met f y=>exact ⟨_,(show h.get? T = some _ from this)⟩
   | ext φ=>obtain ⟨_,⟨_,e⟩,_⟩:=this;exact ⟨_,e⟩
  obtain ⟨oo,hoo⟩:=hoo
  rw [e] at hoo;cases hoo
theorem Qre {Q:Unit→Shared→Prop} {E:Value→Shared→Prop} (hs:X.stack = X.env :: X.outer) (hf:X.env.frame = some X.env.locals) (I:Inv X pins σ H s) (F:Fly H x C dx tb fs)
  (h:∀ s' H' T,Inv X pins σ H' s'→Fly H' x C dx (.ref T) fs→Q () s') :
  wpAny (model X.prog X.w) X.A (noteFrame (.ref x) X.env) (fun _ s2=>wpAny (model X.prog X.w) X.A (setFlight (.ref x) none) Q E s2) E s:=by
 obtain ⟨t,hx⟩:=XO.get I.hok F.exc
 have fr:X.A.frames = some (X.env :: X.outer):=by rw [← hs];exact I.ok.frames
 have st:s.heap.FunFrames X.base (X.env :: X.outer):=by rw [← hs];exact I.stack
 have stf:∀ b ∈ frs (X.env :: X.outer),H b = none:=by rw [← hs];exact I.stkFree
 have htb:tb = .none ∨ ∃ T,tb = .ref T∧TbAt s.heap T .none:=by
  rcases F.tb with e | ⟨T,e,_,eT⟩
  ·exact .inl e
  ·exact .inr ⟨T,e,XT.get I.hok eT⟩
 refine Qhg (base:=X.base) fr st hf hx htb fun h' T G=>?_
 have hT0:=Qo1 I.hok G.new
 have nxT:x ≠ T:=Qa7 F.exc hT0
 have ndT:dx ≠ T:=Qa7 F.dct hT0
 have sne:∀ b,H b = none→b ≠ x:=fun b n z=>by rw [z,F.exc] at n;cases n
 have un:Un (frs X.stack) [] H (upd (upd H x (XO x C (some dx) (.ref T))) T (XT T)) s.heap h':=by
  rw [hs]
  refine ⟨fun b o e n hb _=>G.keep b o (sne b n) hb e,fun b o e n hb _=>G.slot b o (sne b n) e,fun b o e n _=>?_,fun b o e _=>?_,fun b xs e=>?_,fun b o u e=>?_,fun b ps e=>?_⟩
  ·have nT:b ≠ T:=fun z=>by rw [z,G.new] at e;cases e
   rw [Qa6 nT,Qa6 (sne b n)];exact n
  ·by_cases z:b = x
   ·rw [z];exact ⟨_,G.exc⟩
   ·obtain ⟨sl,e2⟩:=G.slot b o z e
    exact ⟨_,e2⟩
  ·rw [Qa6 (Qa7 e hT0),Qa6 (Qc2 e F.exc (by intro q;cases q))];exact e
  ·rw [Qa6 (Qa7 e hT0),Qa6 (Qc2 e F.exc (by intro q;cases q))];exact e
  ·exact ⟨#[],by rw [Qa6 (Qa7 e hT0),Qa6 (Qc2 e F.exc (by intro q;cases q)),e];simp⟩
 have hok:HOk X.prog X.w (upd (upd H x (XO x C (some dx) (.ref T))) T (XT T)) h':=fun b u e=>by
  by_cases z:b = T
  ·subst z
   rw [Qa3] at e;cases e
   exact XT.mk G.tb
  ·rw [Qa6 z] at e
   by_cases z2:b = x
   ·subst z2
    rw [Qa3] at e;cases e
    exact XO.mk G.exc
   ·rw [Qa6 z2] at e
    refine (I.hok b u e).stay (fun c v hc q=>G.keep c v ?_ ?_ q) (fun c q=>?_) fun c xs q=>?_
    ·rcases hc with hc | hc
     ·rw [hc];exact z2
     ·exact Qc2 hc F.exc (by intro q;cases q)
    ·intro hm
     have:=stf c hm
     rcases hc with hc | hc
     ·rw [hc,e] at this;cases this
     ·rw [hc] at this;cases this
    ·rw [Qa6 (Qa7 q hT0),Qa6 (Qc2 q F.exc (by intro q;cases q))];exact q
    ·rw [Qa6 (Qa7 q hT0),Qa6 (Qc2 q F.exc (by intro q;cases q))];exact q
 exact h _ _ T (I.call' (s':={ s with heap:=h' }) (ch:=[]) rfl un hok I.bare fun b z=>absurd z (by simp)) ⟨by rw [Qa6 nxT,Qa3], .inr ⟨T,rfl,Ne.symm nxT,Qa3⟩,by rw [Qa6 ndT,Qa6 F.ne];exact F.dct,F.ne⟩
theorem Qnq {A':Around} {T:Addr} {Q:Unit→Shared→Prop} {E:Value→Shared→Prop} (I:Inv X pins σ H s) (F:Fly H x C dx (.ref T) fs) (h:∀ s',Inv X pins σ H s'→Q () s') :
  wpAny (model X.prog X.w) A' (setFlight (.ref x) none) Q E s:=by
 obtain ⟨t,hx⟩:=XO.get I.hok F.exc
 obtain ⟨T',e,ne,eT⟩ : ∃ T',Value.ref T = .ref T'∧T' ≠ x∧H T' = some (XT T'):=by
  rcases F.tb with e | e
  ·cases e
  ·exact e
 cases e
 obtain ⟨oT,ts,hT,hdT,h3⟩:=XT.get I.hok eT
 unfold setFlight
 refine wpAny_bind (wpAny_field hx rfl (x:=.ref T) rfl ?_)
 rw [if_pos (show (Value.ref T != Value.none) = true from by simp)]
 refine wpAny_setField hT hdT (Array.getElem?_eq_some_iff.mp h3).1 (h _ ?_)
 exact I.kept (t':=s.toks) fun b u q=>(Qis ⟨oT,ts,hT,hdT,h3⟩ b).trans q
theorem Qkq {R:Addr} {A':Around} {Q:Bool→Shared→Prop} {E:Value→Shared→Prop} (I:Inv X pins σ H s) (F:Fly H x C dx tb fs) (c:ECl X.K C) (r:ECl X.K R) (hs:subE X.K C R = true) (h:Q true s):wpAny (model X.prog X.w) A' (excMatches (.ref x) (.ref R)) Q E s:=by
 obtain ⟨t,hx⟩:=XO.get I.hok F.exc
 obtain ⟨nm,q,N,bs,bm,hdct,sn,sub,ab,col,dd,k0,k1,k2,k3,k5,hC,e1,c1,c2,c3,c4⟩:=Qls I.kIn c.ex
 obtain ⟨nm',q',N',bs',bm',hdct',sn',sub',ab',col',dd',k0',k1',k2',k3',k5',hR,e1',c1',c2',c3',c4'⟩:=Qls I.kIn r.ex
 have hcB:(Value.ref R :: bm').contains (.type "BaseException") = true:=by rw [List.contains_cons,c2',Bool.or_true]
 have hcC:(Value.ref C :: bm).contains (.ref R) = true:=by
  obtain ⟨cd,hcd,hm⟩:=PySem.W.any_some hs
  unfold PySem.W.clsIn at hcd
  split at hcd
  ·rename_i o cd' hl
   cases hcd
   have e2:=I.kIn _ _ hl
   rw [hC] at e2
   cases e2
   exact hm
  ·cases hcd
 have f:=tc_notTuple
 obtain ⟨hp,g,d,tk,os⟩:=s
 unfold excMatches
 repeat (first | with_reducible refine wpAny_loadPart_at hx ?_ | with_reducible refine wpAny_loadPart_at hR ?_ | with_reducible refine wpAny_loadPart_at hC ?_ | (with_reducible refine wpAny_isSubtype_exc hR ?_;rw [hcB]) | (with_reducible refine wpAny_isSubtype_exc hC ?_;rw [hcC]) | wp_step)
 exact h
end
end L2
end
section
namespace L2
open PySem PySem.Spec PyProof.Rows
section
variable {X : Cx} {pins : List (Addr × Obj)} {σ : St} {H : Hp} {s : Shared}
theorem Inv.gone {h':Heap} {m':Str→Option Value} {t':Nat} (I:Inv X pins σ H s) (hn:h'.Ns X.env.locals m') (hs:Heap.SameBut X.env.locals s.heap h'):Inv X pins (List.replicate X.N.length none) H { s with heap:=h',toks:=t' }:=by
 obtain ⟨m,⟨oL,_,_,hoL,_⟩,hl⟩:=id I.loc
 have ab:∀ b o,X.s_0.heap.get? b = some o→b ≠ X.env.locals:=fun b o e=>Nat.ne_of_lt (Nat.lt_of_lt_of_le (Heap.lt_size e) I.ok.above)
 refine ⟨I.ok,I.os,I.bare,⟨fun b o e n hb hx=>(hs.2 b (ab b o e)).trans (I.base.keep b o e n hb hx),fun b o e n hb hx=>?_,I.base.free,fun b o e hx=>?_,I.base.tups,I.base.frzs,I.base.tbls⟩,⟨m',hn,fun j y v e1 e2 e3=>?_⟩,fun y c e=>?_,I.free,I.freeC,fun p hp=>?_,fun b ob e=>?_,by simp⟩
 ·obtain ⟨sl,e1⟩:=I.base.slot b o e n hb hx
  exact ⟨sl,(hs.2 b (ab b o e)).trans e1⟩
 ·obtain ⟨o',e1⟩:=I.base.there b o e hx
  exact ⟨o',(hs.2 b (ab b o e)).trans e1⟩
 ·rw [List.getElem?_replicate] at e2
  split at e2 <;> cases e2
 ·obtain ⟨v,z⟩:=I.cell y c e
  exact ⟨v,z.sameBut hs (I.cne y c e)⟩
 ·obtain ⟨e,n,ne,nf,d⟩:=I.pin p hp
  exact ⟨(hs.2 p.1 ne).trans e,n,ne,nf,d⟩
 ·refine (I.hok b ob e).stay (fun c w' hc q=>(hs.2 c ?_).trans q) (fun _ q=>q) fun _ _ q=>q
  rintro rfl
  rcases hc with hc | hc
  ·have:=I.free;rw [hc,e] at this;cases this
  ·have:=I.free;rw [hc] at this;cases this
def tTry (K:PySem.W.Frag) (R:Addr) (EB:XK) (tb ts:TS) (i:Nat):TS:=fun D σ H=>tb D σ H∧∀ (σ':St) (H':Hp) (x C dx T:Addr) (fs:List (Str × V)),σ'.length = σ.length→Fly H' x C dx (.ref T) fs→EB (.ref C) (some dx) (one dx fs) →
 ECl K C∧subE K C R = true∧ts { nx:=fun _ _=>False,rt:=D.rt } (σ'.set i (some (.ref x))) H'
theorem Qwu {body suite:List Stmt} {b0:Stmt} {hpos p pos:Pos} {cn n:Str} {i:Nat} {R:Addr} {EB:XK} {tb ts:TS}
  (hb:∀ (pn:List (Addr × Obj)) (W:Value→Shared→Prop),(∀ (pins:List (Addr × Obj)) (σ : St) (H:Hp) (s:Shared) (x C dx T:Addr) (fs:List (Str × V)),Inv (X.inTry pn W) pins σ H s→Fly H x C dx (.ref T) fs→EB (.ref C) (some dx) (one dx fs)→W (.ref x) s)→PSs (X.inTry pn W) body tb)
  (hg:Gl X cn) (hm:X.mg cn = some (.ref R)) (r:ECl X.K R) (hi:X.N[i]? = some n) (hN:X.N.Nodup) (hl:X.env.scope.names.lookup n = some .local)
  (hsu:∀ x,PSs (X.held x) (b0 :: suite) ts) (hs:X.stack = X.env :: X.outer) (hf:X.env.frame = some X.env.locals) (hfn:X.fn n = true) (hdb:(cn == ("__debug__" : Str)) = false:=by decide) :
  PS X (.Try body [.ExceptHandler (some (.Name cn p)) (some n) (b0 :: suite) hpos] [] [] pos) (tTry X.K R EB tb ts i):=by
 intro pins s σ H D I ⟨h1,h2⟩
 let W:Value→Shared→Prop:=fun e s'=>∃ (σ':St) (H':Hp) (x C dx T:Addr) (fs:List (Str × V)),e = .ref x∧Inv X pins σ' H' s'∧Fly H' x C dx (.ref T) fs∧EB (.ref C) (some dx) (one dx fs)
 refine wpAny_Try_except (wpAny_mono (hb (X.pn ++ pins) W (fun pins' σ' H' s' x C dx T fs I' F' e'=>⟨σ',H',x,C,dx,T,fs,rfl,I'.unTry,F',e'⟩) [] s σ H D (I.inTry W) h1) (fun f s1 q=>?_) (fun e s1 q=>?_))
 ·cases f with
  | next=>obtain ⟨σ',H',I',q⟩:=q;exact wpAny_execs_nil ⟨σ',H',I'.unTry,q⟩
  | brk=>obtain ⟨σ',H',I',q⟩:=q;exact ⟨σ',H',I'.unTry,q⟩
  | cont=>obtain ⟨σ',H',I',q⟩:=q;exact ⟨σ',H',I'.unTry,q⟩
  | ret u=>obtain ⟨v,σ',H',I',rv,q⟩:=q;exact ⟨v,σ',H',I'.unTry,rv,q⟩
 ·obtain ⟨σ1,H1,x,C,dx,T,fs,rfl,I1,F1,hE⟩:=q
  refine Qre hs hf I1 F1 fun s3 H3 T3 I3 F3=>?_
  obtain ⟨c,hsub,hts⟩:=h2 σ1 H3 x C dx T3 fs (I1.len.trans I.len.symm) F3 hE
  refine wpAny_handleBy_cons (codeAny_handlers_test ?_) (by intro q;cases q)
  refine Qdt (X:=X.held x) (I3.held x) hg hm (Qkq (X:=X) I3 F3 c r hsub ?_) hdb
  refine codeAny_handlers_suite_as (Qnq I3 F3 fun s4 I4=>?_)
  refine Qft I4 hN hi (.inl hl) (v:=.ref x) rfl (fun s5 I5=>?_) (.inl hfn)
  refine wpAny_mono (hsu x pins s5 _ H3 _ (I5.held x) hts) (fun f s6 q=>?_) (fun _ _ z=>z.elim)
  cases f with
  | next=>obtain ⟨_,_,_,q⟩:=q;exact q.elim
  | brk=>obtain ⟨_,_,_,q⟩:=q;exact q.elim
  | cont=>obtain ⟨_,_,_,q⟩:=q;exact q.elim
  | ret u =>
   obtain ⟨v,σ6,H6,I6,rv,q⟩:=q
   have I7:=I6.unheld I.ok.hd
   obtain ⟨m,hn,_⟩:=id I7.loc
   refine wpAny_nameGoes hl hn (by rw [I.ok.kind];rfl) fun h' m' hn' sb=>?_
   exact ⟨v,_,H6,I7.gone hn' sb,rv,q⟩
end
section
variable {P : Program} {w : World} {K : PySem.W.Frag} {mg : Str → Option Value} {base : Heap}
theorem Fun.okX {x qual:Str} {st:Stmt} {f:Addr} {fd:FuncData} {N ps:List Str} {k:Nat} {sp:Sp} {CX:CXT} (F:Fun K x qual st f fd) (S:Qaa N ps (Qa1 st)) (len:∀ vs H Q E,sp vs H Q E→vs.length = ps.length)
  (hbody:∀ (cdv:Value) (A:Around) (outer:List Env) (s:Shared) (H:Hp) (vs:List V) (Q:VK) (E:XK),Room k (A.deeper (envOfC qual (Qa1 st) s.heap.objs.size f cdv))→sp vs H Q E →
   ∃ t,PSs (cxOf CX P w K mg base N qual (Qa1 st) f cdv A outer s H E) (Qa8 st) t∧t { nx:=fun _ H'=>Q .non H',rt:=Q } (start N vs) H):FnOk P w K mg base CX (k + 1) f fd ps sp:=by
 obtain ⟨oc,od,kV,doc,pm,an,cdv,ct,osl,rfl,lk,hcd⟩:=F.ex
 exact Qy9 lk hcd S len fun A outer s H vs Q E hr hsp=>hbody cdv A outer s H vs Q E hr hsp
end
end L2
end
section
namespace My
open Vaarra
def sgn (c:Nat):Nat:=if 40 ≤ c∧c < 126 then c else if c = 9 ∨ c = 13 ∨ c = 32 then 32 else if c = 10 then 10 else if c = 35 then 35 else 63
theorem Qbx (c:Nat):(40 ≤ c∧c < 126∧sgn c = c) ∨ ((c = 9 ∨ c = 13 ∨ c = 32)∧sgn c = 32) ∨ (c = 10∧sgn c = 10) ∨ (c = 35∧sgn c = 35) ∨ ((c < 40 ∨ 126 ≤ c)∧c ≠ 9∧c ≠ 13∧c ≠ 32∧c ≠ 10∧c ≠ 35∧sgn c = 63):=by
 unfold sgn
 by_cases h1 : 40 ≤ c∧c < 126
 ·rw [if_pos h1];exact .inl ⟨h1.1,h1.2,rfl⟩
 ·rw [if_neg h1]
  by_cases h2:c = 9 ∨ c = 13 ∨ c = 32
  ·rw [if_pos h2];exact .inr (.inl ⟨h2,rfl⟩)
  ·rw [if_neg h2]
   by_cases h3:c = 10
   ·rw [if_pos h3];exact .inr (.inr (.inl ⟨h3,rfl⟩))
   ·rw [if_neg h3]
    by_cases h4:c = 35
    ·rw [if_pos h4];exact .inr (.inr (.inr (.inl ⟨h4,rfl⟩)))
    ·rw [if_neg h4];exact .inr (.inr (.inr (.inr ⟨by omega,by omega,by omega,by omega,h3,h4,rfl⟩)))
theorem Qgw (c:Nat):blank c = true ↔ c = 32 ∨ c = 9 ∨ c = 10 ∨ c = 13:=by unfold blank;simp only [Bool.or_eq_true,beq_iff_eq];omega
theorem Qcp (c:Nat):digit c = true ↔ 48 ≤ c∧c ≤ 57:=by unfold digit;simp only [Bool.and_eq_true,decide_eq_true_eq]
theorem Qc6 (c:Nat):small c = true ↔ 97 ≤ c∧c ≤ 122:=by unfold small;simp only [Bool.and_eq_true,decide_eq_true_eq]
theorem Qcf (c:Nat):great c = true ↔ 65 ≤ c∧c ≤ 90:=by unfold great;simp only [Bool.and_eq_true,decide_eq_true_eq]
theorem Qjl (c:Nat):inner c = true ↔ (97 ≤ c∧c ≤ 122) ∨ (65 ≤ c∧c ≤ 90) ∨ (48 ≤ c∧c ≤ 57):=by
 unfold inner
 rw [Bool.or_eq_true,Bool.or_eq_true,Qc6,Qcf,Qcp]
 omega
theorem b_eq {a b:Bool} {p:Prop} (ha:a = true ↔ p) (hb:b = true ↔ p):a = b:=by
 cases a <;> cases b <;> simp_all
theorem Qdn (c:Nat):digit (sgn c) = digit c:=b_eq (p:=48 ≤ c∧c ≤ 57) (by rw [Qcp];have:=Qbx c;omega) (Qcp c)
theorem Qg1 (c:Nat):small (sgn c) = small c:=b_eq (p:=97 ≤ c∧c ≤ 122) (by rw [Qc6];have:=Qbx c;omega) (Qc6 c)
theorem Qir (c:Nat):great (sgn c) = great c:=b_eq (p:=65 ≤ c∧c ≤ 90) (by rw [Qcf];have:=Qbx c;omega) (Qcf c)
theorem Qom (c:Nat):blank (sgn c) = blank c:=b_eq (p:=c = 32 ∨ c = 9 ∨ c = 10 ∨ c = 13) (by rw [Qgw];have:=Qbx c;omega) (Qgw c)
theorem Qiq (c:Nat):inner (sgn c) = inner c:=by unfold inner;rw [Qg1,Qir,Qdn]
theorem Ql9 {k:Nat} (hk:k = 10 ∨ k = 35 ∨ (40 ≤ k∧k < 126∧k ≠ 63)) (c:Nat):sgn c = k ↔ c = k:=by
 rcases Qbx c with ⟨h1,h2,e⟩ | ⟨h1,e⟩ | ⟨h1,e⟩ | ⟨h1,e⟩ | h1
 ·rw [e]
 ·rw [e];omega
 ·rw [e];omega
 ·rw [e];omega
 ·omega
theorem Qd3 (p:Nat→Bool) (hp:∀ c,p (sgn c) = p c):∀ b:List Nat,(b.map sgn).takeWhile p = (b.takeWhile p).map sgn
 | []=>rfl
 | c :: r=>by
  rw [List.map_cons,List.takeWhile_cons,List.takeWhile_cons,hp]
  cases p c with
  | true=>simp only [if_true,List.map_cons];rw [Qd3 p hp r]
  | false=>simp
theorem Qpe:∀ {b:List Nat},(∀ c ∈ b,sgn c = c)→b.map sgn = b
 | [],_=>rfl
 | c :: r,h=>by rw [List.map_cons,h c List.mem_cons_self,Qpe fun d hd=>h d (List.mem_cons_of_mem _ hd)]
theorem tw_fix (p:Nat→Bool) (hp:∀ c,p (sgn c) = p c) (hf:∀ c,p c = true→sgn c = c) (b:List Nat):(b.map sgn).takeWhile p = b.takeWhile p:=by
 rw [Qd3 p hp,Qpe fun c hc=>?_]
 exact hf c (List.all_eq_true.mp (List.all_takeWhile (l:=b) (p:=p)) c hc)
theorem Qjt (c:Nat) (h:digit c = true):sgn c = c:=by rw [Qcp] at h;have:=Qbx c;omega
theorem Qjm (c:Nat) (h:inner c = true):sgn c = c:=by rw [Qjl] at h;have:=Qbx c;omega
def Qch (c:Nat) (r:Text):Option (Tok × Text) :=
  if digit c then (if isNumber ((c :: r).takeWhile digit) then some (.num (worth ((c :: r).takeWhile digit):Nat),(c :: r).takeWhile digit) else none)
  else if c = 95∧(r.head?.map digit).getD false = true then (if isNumber (r.takeWhile digit) && r.takeWhile digit != [48] then some (.num (-((worth (r.takeWhile digit):Nat):Int)),95 :: r.takeWhile digit) else none)
  else if small c || great c then (if 16 < ((c :: r).takeWhile inner).length then none else some (if small c then .small ((c :: r).takeWhile inner) else .great ((c :: r).takeWhile inner),(c :: r).takeWhile inner))
  else if c = 58∧(r.head?.map small).getD false = true then (if modWords.contains (r.takeWhile inner) then some (.mod (r.takeWhile inner),58 :: r.takeWhile inner) else none)
  else match signAt (c :: r) with
   | some x=>some (.sign x,x)
   | none=>none
def Qd2:Text→Option (Tok × Text)
 | []=>none
 | c :: r=>Qch c r
theorem Qbc (c:Nat) (r:Text):Qd2 (c :: r) = Qch c r:=rfl
theorem Qcw (n i c:Nat) (r:Text):cut (n + 1) i (c :: r) =
  if blank c then cut n (i + 1) r
  else if c = 35 then cut n (i + ((c :: r).takeWhile fun y=>y != 10).length) ((c :: r).drop ((c :: r).takeWhile fun y=>y != 10).length)
  else match Qd2 (c :: r) with
   | some (t,x)=>before i t (cut n (i + x.length) ((c :: r).drop x.length))
   | none=>.error ⟨2,i⟩:=by
 rw [Qbc,cut]
 unfold Qch
 by_cases h0:blank c = true
 ·rw [if_pos h0,if_pos h0];rfl
 rw [if_neg h0,if_neg h0]
 by_cases h1:c = 35
 ·rw [if_pos h1,if_pos h1]
 rw [if_neg h1,if_neg h1]
 by_cases h2:digit c = true
 ·rw [if_pos h2,if_pos h2]
  by_cases h3:isNumber ((c :: r).takeWhile digit) = true
  ·simp only [if_pos h3]
  ·simp only [if_neg h3]
 rw [if_neg h2,if_neg h2]
 by_cases h4:c = 95∧(r.head?.map digit).getD false = true
 ·rw [if_pos h4,if_pos h4]
  by_cases h5:(isNumber (r.takeWhile digit) && r.takeWhile digit != [48]) = true
  ·simp only [if_pos h5];rfl
  ·simp only [if_neg h5]
 rw [if_neg h4,if_neg h4]
 by_cases h6:(small c || great c) = true
 ·rw [if_pos h6,if_pos h6]
  by_cases h7 : 16 < ((c :: r).takeWhile inner).length
  ·simp only [if_pos h7]
  ·simp only [if_neg h7]
 rw [if_neg h6,if_neg h6]
 by_cases h8:c = 58∧(r.head?.map small).getD false = true
 ·rw [if_pos h8,if_pos h8]
  by_cases h9:modWords.contains (r.takeWhile inner) = true
  ·simp only [if_pos h9];rfl
  ·simp only [if_neg h9]
 rw [if_neg h8,if_neg h8]
 cases signAt (c :: r) <;> rfl
theorem Qm9 {b x:Text} (h:signAt b = some x):x.length ≤ b.length∧(b ≠ []→1 ≤ x.length):=by
 unfold signAt at h
 by_cases h1 : [[58,61],[60,61],[47,61]].contains (b.take 2) = true
 ·rw [if_pos h1] at h
  cases h
  refine ⟨by rw [List.length_take];omega,fun hb=>?_⟩
  cases b with
  | nil=>exact absurd rfl hb
  | cons c r=>rw [List.length_take,List.length_cons];omega
 ·rw [if_neg h1] at h
  by_cases h2 : [[40],[41],[123],[125],[59],[43],[45],[42],[60],[61]].contains (b.take 1) = true
  ·rw [if_pos h2] at h
   cases h
   refine ⟨by rw [List.length_take];omega,fun hb=>?_⟩
   cases b with
   | nil=>exact absurd rfl hb
   | cons c r=>rw [List.length_take,List.length_cons];omega
  ·rw [if_neg h2] at h;cases h
theorem tw_len (p:Nat→Bool) (b:List Nat):(b.takeWhile p).length ≤ b.length:=by
 have:=(List.takeWhile_prefix (l:=b) p).length_le
 exact this
theorem tw_pos {p:Nat→Bool} {c:Nat} {r:List Nat} (h:p c = true) : 1 ≤ ((c :: r).takeWhile p).length:=by
 rw [List.takeWhile_cons,if_pos h,List.length_cons];omega
theorem Qdl {b:Text} {t:Tok} {x:Text} (h:Qd2 b = some (t,x)) : 1 ≤ x.length∧x.length ≤ b.length:=by
 cases b with
 | nil=>cases h
 | cons c r =>
  rw [Qbc] at h
  unfold Qch at h
  by_cases h2:digit c = true
  ·rw [if_pos h2] at h
   split at h
   ·cases h;exact ⟨tw_pos h2,tw_len _ _⟩
   ·cases h
  rw [if_neg h2] at h
  by_cases h4:c = 95∧(r.head?.map digit).getD false = true
  ·rw [if_pos h4] at h
   split at h
   ·cases h;exact ⟨by rw [List.length_cons];omega,by rw [List.length_cons,List.length_cons];have:=tw_len digit r;omega⟩
   ·cases h
  rw [if_neg h4] at h
  by_cases h6:(small c || great c) = true
  ·rw [if_pos h6] at h
   split at h
   ·cases h
   ·cases h;exact ⟨tw_pos (by unfold inner;rw [h6,Bool.true_or]),tw_len _ _⟩
  rw [if_neg h6] at h
  by_cases h8:c = 58∧(r.head?.map small).getD false = true
  ·rw [if_pos h8] at h
   split at h
   ·cases h;exact ⟨by rw [List.length_cons];omega,by rw [List.length_cons,List.length_cons];have:=tw_len inner r;omega⟩
   ·cases h
  rw [if_neg h8] at h
  cases q:signAt (c :: r) with
  | none=>rw [q] at h;cases h
  | some y =>
   rw [q] at h
   cases h
   have:=Qm9 q
   exact ⟨this.2 (by simp),this.1⟩
theorem Qe7:∀ (n m i:Nat) (b:Text),b.length < n→b.length < m→cut n i b = cut m i b
 | 0,_,_,_,h,_=>absurd h (Nat.not_lt_zero _)
 | _ + 1,0,_,_,_,h=>absurd h (Nat.not_lt_zero _)
 | n + 1,m + 1,i,[],_,_=>rfl
 | n + 1,m + 1,i,c :: r,h1,h2=>by
  rw [List.length_cons] at h1 h2
  rw [Qcw,Qcw]
  by_cases hb:blank c = true
  ·rw [if_pos hb,if_pos hb];exact Qe7 n m _ r (by omega) (by omega)
  ·rw [if_neg hb,if_neg hb]
   by_cases hc:c = 35
   ·rw [if_pos hc,if_pos hc]
    have l1 : 1 ≤ ((c :: r).takeWhile fun y=>y != 10).length:=tw_pos (by rw [hc];decide)
    have l2:=List.length_drop (l:=c :: r) (i:=((c :: r).takeWhile fun y=>y != 10).length)
    rw [List.length_cons] at l2
    exact Qe7 n m _ _ (by omega) (by omega)
   ·rw [if_neg hc,if_neg hc]
    cases q:Qd2 (c :: r) with
    | none=>rfl
    | some y =>
     obtain ⟨t,x⟩:=y
     have l1:=Qdl q
     have l2:=List.length_drop (l:=c :: r) (i:=x.length)
     rw [List.length_cons] at l1 l2
     show before i t _ = before i t _
     rw [Qe7 n m _ _ (by omega) (by omega)]
def toks (i:Nat) (b:Text):Except Fault Toks:=cut (b.length + 1) i b
theorem Qhv (i:Nat):toks i [] = .ok [(i, .fin)]:=rfl
theorem Qe0 {i c:Nat} {r:Text} (h:blank c = true):toks i (c :: r) = toks (i + 1) r:=by
 unfold toks
 rw [Qcw,if_pos h];exact Qe7 _ _ _ _ (by rw [List.length_cons];omega) (by omega)
theorem Qht {i c:Nat} {r:Text} {t:Tok} {x:Text} (h : ¬ blank c = true) (h35:c ≠ 35) (q:Qd2 (c :: r) = some (t,x)):toks i (c :: r) = before i t (toks (i + x.length) ((c :: r).drop x.length)):=by
 have l1:=Qdl q
 have l2:=List.length_drop (l:=c :: r) (i:=x.length)
 unfold toks
 rw [Qcw,if_neg h,if_neg h35,q]
 show before i t _ = before i t _
 rw [List.length_cons] at *
 exact congrArg (before i t) (Qe7 _ _ _ _ (by omega) (by omega))
theorem Qf1 {i c:Nat} {r:Text} (h : ¬ blank c = true) (h35:c ≠ 35) (q:Qd2 (c :: r) = none):toks i (c :: r) = .error ⟨2,i⟩:=by
 unfold toks
 rw [Qcw,if_neg h,if_neg h35,q]
theorem Qdk {i:Nat} {r:Text}:toks i (35 :: r) = toks (i + ((35 :: r).takeWhile fun y=>y != 10).length) ((35 :: r).drop ((35 :: r).takeWhile fun y=>y != 10).length):=by
 have l1 : 1 ≤ ((35 :: r).takeWhile fun y=>y != 10).length:=tw_pos (by decide)
 have l2:=List.length_drop (l:=35 :: r) (i:=((35 :: r).takeWhile fun y=>y != 10).length)
 unfold toks
 rw [Qcw,if_neg (by decide),if_pos rfl]
 rw [List.length_cons] at *
 exact Qe7 _ _ _ _ (by omega) (by omega)
theorem Qo4 (b:Text):tokens b = toks 0 b:=rfl
theorem Qlq (p:Nat→Bool) (hp:∀ c,p (sgn c) = p c) (r:Text):(((r.map sgn).head?).map p).getD false = ((r.head?).map p).getD false:=by
 cases r with
 | nil=>rfl
 | cons c r=>simp [hp]
def okK (k:Nat):Bool:=k == 10 || k == 35 || (decide (40 ≤ k) && decide (k < 126) && k != 63)
theorem Qvq {k:Nat} (h:okK k = true) (c:Nat):sgn c = k ↔ c = k:=by
 unfold okK at h
 simp only [Bool.or_eq_true,Bool.and_eq_true,beq_iff_eq,decide_eq_true_eq,bne_iff_ne] at h
 exact Ql9 (by rcases h with (h | h) | ⟨⟨h1,h2⟩,h3⟩ <;> simp_all) c
theorem Qpd:∀ {x b:List Nat},(∀ k ∈ x,okK k = true)→(b.map sgn = x ↔ b = x)
 | [],b,_=>by simp
 | k :: x,[],_=>by simp
 | k :: x,c :: b,h=>by
  rw [List.map_cons,List.cons.injEq,List.cons.injEq,Qvq (h k List.mem_cons_self),Qpd fun k hk=>h k (List.mem_cons_of_mem _ hk)]
theorem Qcx (L:List (List Nat)) (h:(L.all fun x=>x.all okK) = true) (b:List Nat):L.contains (b.map sgn) = L.contains b∧(L.contains b = true→b.map sgn = b):=by
 have ok:∀ x ∈ L,∀ k ∈ x,okK k = true:=fun x hx=>List.all_eq_true.mp (List.all_eq_true.mp h x hx)
 have fix:b ∈ L→b.map sgn = b:=fun hb=>(Qpd (ok b hb)).mpr rfl
 constructor
 ·rw [Bool.eq_iff_iff,List.contains_iff_mem,List.contains_iff_mem]
  constructor
  ·intro hm
   rw [(Qpd (ok _ hm)).mp rfl];exact hm
  ·intro hm
   rw [fix hm];exact hm
 ·rw [List.contains_iff_mem];exact fix
theorem Qoj (c:Nat) : [[40],[41],[123],[125],[59],[43],[45],[42],[60],[61]].contains [sgn c] = [[40],[41],[123],[125],[59],[43],[45],[42],[60],[61]].contains [c]:=(Qcx _ (by decide) [c]).1
theorem Qoi (c d:Nat) : [[58,61],[60,61],[47,61]].contains [sgn c,sgn d] = [[58,61],[60,61],[47,61]].contains [c,d]:=(Qcx _ (by decide) [c,d]).1
theorem Qm8 (b:Text):signAt (b.map sgn) = signAt b:=by
 have fix1:∀ c,[[40],[41],[123],[125],[59],[43],[45],[42],[60],[61]].contains [c] = true→sgn c = c:=fun c h=>by
  have:=(Qcx _ (by decide) [c]).2 h
  injection this
 have fix2:∀ c d,[[58,61],[60,61],[47,61]].contains [c,d] = true→sgn c = c∧sgn d = d:=fun c d h=>by
  have:=(Qcx _ (by decide) [c,d]).2 h
  injection this with h1 h2
  injection h2 with h2
  exact ⟨h1,h2⟩
 have one:∀ c,(if [[40],[41],[123],[125],[59],[43],[45],[42],[60],[61]].contains [sgn c] = true then some [sgn c] else none) = (if [[40],[41],[123],[125],[59],[43],[45],[42],[60],[61]].contains [c] = true then some [c] else none):=fun c=>by
  rw [Qoj]
  split
  ·rename_i h;rw [fix1 c h]
  ·rfl
 cases b with
 | nil=>rfl
 | cons c r =>
  cases r with
  | nil =>
   unfold signAt
   show (if [[58,61],[60,61],[47,61]].contains [sgn c] = true then some [sgn c] else if [[40],[41],[123],[125],[59],[43],[45],[42],[60],[61]].contains [sgn c] = true then some [sgn c] else none) = (if [[58,61],[60,61],[47,61]].contains [c] = true then some [c] else if [[40],[41],[123],[125],[59],[43],[45],[42],[60],[61]].contains [c] = true then some [c] else none)
   have e:∀ k,[[58,61],[60,61],[47,61]].contains [k] = false:=fun k=>by simp
   rw [e,e,one,if_neg Bool.false_ne_true,if_neg Bool.false_ne_true]
  | cons d r =>
   unfold signAt
   show (if [[58,61],[60,61],[47,61]].contains [sgn c,sgn d] = true then some [sgn c,sgn d] else if [[40],[41],[123],[125],[59],[43],[45],[42],[60],[61]].contains [sgn c] = true then some [sgn c] else none) = (if [[58,61],[60,61],[47,61]].contains [c,d] = true then some [c,d] else if [[40],[41],[123],[125],[59],[43],[45],[42],[60],[61]].contains [c] = true then some [c] else none)
   rw [one,Qoi]
   split
   ·rename_i h
    obtain ⟨h1,h2⟩:=fix2 c d h
    rw [h1,h2]
   ·rfl
theorem Qo5 (b:Text):Qd2 (b.map sgn) = Qd2 b:=by
 cases b with
 | nil=>rfl
 | cons c r =>
  have e1:(sgn c :: r.map sgn).takeWhile digit = (c :: r).takeWhile digit:=tw_fix digit Qdn Qjt (c :: r)
  have e2:(sgn c :: r.map sgn).takeWhile inner = (c :: r).takeWhile inner:=tw_fix inner Qiq Qjm (c :: r)
  have e3:=tw_fix digit Qdn Qjt r
  have e4:=tw_fix inner Qiq Qjm r
  have e5:signAt (sgn c :: r.map sgn) = signAt (c :: r):=Qm8 (c :: r)
  rw [List.map_cons,Qbc,Qbc]
  unfold Qch
  rw [e1,e2,e3,e4,e5,Qdn,Qg1,Qir,Qlq digit Qdn,Qlq small Qg1]
  have e6:(sgn c = 95) = (c = 95):=propext (Ql9 (by omega) c)
  have e7:(sgn c = 58) = (c = 58):=propext (Ql9 (by omega) c)
  simp only [e6,e7]
theorem Qky (b:Text):((b.map sgn).takeWhile fun y=>y != 10).length = (b.takeWhile fun y=>y != 10).length:=by
 rw [Qd3 (fun y=>y != 10) (fun c=>?_),List.length_map]
 refine b_eq (p:=c ≠ 10) ?_ ?_
 ·have:=Qbx c
  simp only [bne_iff_ne,ne_eq];omega
 ·simp only [bne_iff_ne,ne_eq]
theorem Qqe:∀ (n i:Nat) (b:Text),cut n i (b.map sgn) = cut n i b
 | 0,_,_=>rfl
 | n + 1,i,[]=>rfl
 | n + 1,i,c :: r=>by
  have q:=Qo5 (c :: r)
  have l:=Qky (c :: r)
  rw [List.map_cons] at *
  rw [Qcw,Qcw,Qom,q,l]
  have e6:(sgn c = 35) = (c = 35):=propext (Ql9 (by omega) c)
  have d:∀ k,(sgn c :: r.map sgn).drop k = ((c :: r).drop k).map sgn:=fun k=>by rw [← List.map_cons (f:=sgn),List.map_drop]
  simp only [e6,d,Qqe n]
theorem Qqu (i:Nat) (b:Text):toks i (b.map sgn) = toks i b:=by unfold toks;rw [Qqe,List.length_map]
end My
end
section
namespace My
open PySem PySem.Spec PyProof.Rows L2
open PySem.W (Codec)
def top (i:Nat):Stmt:=PySem.Challenge.pw_arraytexts_s01_plain.main.body.getD i (.Pass ⟨0,0,0,0⟩)
abbrev Qn0:Stmt:=Qar (top 1) 0
theorem Qwh:Qaa ["self", "number", "position"] ["self", "number", "position"] (Qa1 Qn0):=⟨rfl,rfl,rfl,by decide +kernel,rfl,by decide +kernel,by decide +kernel⟩
abbrev Qn6:Stmt:=Qar (top 2) 0
theorem Qwm:Qaa ["self"] ["self"] (Qa1 Qn6):=⟨rfl,rfl,rfl,by decide +kernel,rfl,by decide +kernel,by decide +kernel⟩
abbrev s_qw:Stmt:=Qar (top 3) 0
theorem sc_qw:Qaa ["self", "position"] ["self", "position"] (Qa1 s_qw):=⟨rfl,rfl,rfl,by decide +kernel,rfl,by decide +kernel,by decide +kernel⟩
abbrev s_qn:Stmt:=Qar (top 4) 0
theorem sc_qn:Qaa ["self", "position"] ["self", "position"] (Qa1 s_qn):=⟨rfl,rfl,rfl,by decide +kernel,rfl,by decide +kernel,by decide +kernel⟩
abbrev Qn9:Stmt:=Qar (top 5) 0
theorem Qwp:Qaa ["self", "position"] ["self", "position"] (Qa1 Qn9):=⟨rfl,rfl,rfl,by decide +kernel,rfl,by decide +kernel,by decide +kernel⟩
abbrev s_qz:Stmt:=Qar (top 6) 0
theorem sc_qz:Qaa ["self", "position"] ["self", "position"] (Qa1 s_qz):=⟨rfl,rfl,rfl,by decide +kernel,rfl,by decide +kernel,by decide +kernel⟩
abbrev s_qy:Stmt:=Qar (top 7) 0
theorem sc_qy:Qaa ["self", "position"] ["self", "position"] (Qa1 s_qy):=⟨rfl,rfl,rfl,by decide +kernel,rfl,by decide +kernel,by decide +kernel⟩
abbrev s_qx:Stmt:=Qar (top 8) 0
theorem sc_qx:Qaa ["self"] ["self"] (Qa1 s_qx):=⟨rfl,rfl,rfl,by decide +kernel,rfl,by decide +kernel,by decide +kernel⟩
abbrev s_qk:Stmt:=Qar (top 9) 0
theorem sc_qk:Qaa ["self"] ["self"] (Qa1 s_qk):=⟨rfl,rfl,rfl,by decide +kernel,rfl,by decide +kernel,by decide +kernel⟩
abbrev Qms:Stmt:=Qar (top 13) 0
theorem Qwd:Qaa ["self"] ["self"] (Qa1 Qms):=⟨rfl,rfl,rfl,by decide +kernel,rfl,by decide +kernel,by decide +kernel⟩
abbrev Qmp:Stmt:=Qar (top 13) 1
theorem Qwb:Qaa ["self", "token", "own"] ["self", "token", "own"] (Qa1 Qmp):=⟨rfl,rfl,rfl,by decide +kernel,rfl,by decide +kernel,by decide +kernel⟩
abbrev s_qh:Stmt:=Qar (top 13) 2
theorem Qw0:Qaa ["self", "token", "own", "name", "mentioned", "fixed", "other"] ["self", "token", "own"] (Qa1 s_qh):=⟨rfl,rfl,rfl,by decide +kernel,rfl,by decide +kernel,by decide +kernel⟩
abbrev s_ql:Stmt:=Qar (top 13) 3
theorem Qvz:Qaa ["self", "tokens", "bodies", "token"] ["self", "tokens"] (Qa1 s_ql):=⟨rfl,rfl,rfl,by decide +kernel,rfl,by decide +kernel,by decide +kernel⟩
abbrev s_qi:Stmt:=Qar (top 13) 4
theorem sc_qi:Qaa ["self", "token", "within_body"] ["self", "token", "within_body"] (Qa1 s_qi):=⟨rfl,rfl,rfl,by decide +kernel,rfl,by decide +kernel,by decide +kernel⟩
abbrev s_qj:Stmt:=Qar (top 13) 5
theorem sc_qj:Qaa ["self", "token"] ["self", "token"] (Qa1 s_qj):=⟨rfl,rfl,rfl,by decide +kernel,rfl,by decide +kernel,by decide +kernel⟩
abbrev Qml:Stmt:=top 14
theorem Qss:Qaa ["tokens", "names", "begin", "place"] ["tokens"] (Qa1 Qml):=⟨rfl,rfl,rfl,by decide +kernel,rfl,by decide +kernel,by decide +kernel⟩
abbrev Qmt:Stmt:=Qar (top 28) 0
theorem Qwe:Qaa ["self", "kind", "position", "spelling"] ["self", "kind", "position", "spelling"] (Qa1 Qmt):=⟨rfl,rfl,rfl,by decide +kernel,rfl,by decide +kernel,by decide +kernel⟩
abbrev Qna:Stmt:=top 29
theorem Qt1:Qaa ["text", "source", "tokens", "place", "token", "byte"] ["text"] (Qa1 Qna):=⟨rfl,rfl,rfl,by decide +kernel,rfl,by decide +kernel,by decide +kernel⟩
abbrev Qme:Stmt:=top 30
theorem Qw7:Qaa ["byte"] ["byte"] (Qa1 Qme):=⟨rfl,rfl,rfl,by decide +kernel,rfl,by decide +kernel,by decide +kernel⟩
abbrev Qn5:Stmt:=top 31
theorem Qt0:Qaa ["source", "place", "row_end"] ["source", "place"] (Qa1 Qn5):=⟨rfl,rfl,rfl,by decide +kernel,rfl,by decide +kernel,by decide +kernel⟩
abbrev Qmh:Stmt:=top 32
theorem Qsq:Qaa ["source", "place", "first", "second"] ["source", "place"] (Qa1 Qmh):=⟨rfl,rfl,rfl,by decide +kernel,rfl,by decide +kernel,by decide +kernel⟩
abbrev Qmm:Stmt:=top 33
theorem Qst:Qaa ["source", "place", "below_zero", "begin", "stop", "digits"] ["source", "place"] (Qa1 Qmm):=⟨rfl,rfl,rfl,by decide +kernel,rfl,by decide +kernel,by decide +kernel⟩
abbrev Qmc:Stmt:=top 34
theorem Qsn:Qaa ["source", "place", "kind", "stop"] ["source", "place", "kind"] (Qa1 Qmc):=⟨rfl,rfl,rfl,by decide +kernel,rfl,by decide +kernel,by decide +kernel⟩
abbrev Qmx:Stmt:=top 35
theorem Qsx:Qaa ["source", "place", "spelling"] ["source", "place"] (Qa1 Qmx):=⟨rfl,rfl,rfl,by decide +kernel,rfl,by decide +kernel,by decide +kernel⟩
abbrev Qmg:Stmt:=top 36
theorem Qon:Qaa ["source", "place", "stop"] ["source", "place"] (Qa1 Qmg):=⟨rfl,rfl,rfl,by decide +kernel,rfl,by decide +kernel,by decide +kernel⟩
abbrev Qmr:Stmt:=top 37
theorem Qsv:Qaa ["sign", "place", "kind"] ["sign", "place"] (Qa1 Qmr):=⟨rfl,rfl,rfl,by decide +kernel,rfl,by decide +kernel,by decide +kernel⟩
abbrev Qmi:Stmt:=top 38
theorem Qw8:Qaa ["token"] ["token"] (Qa1 Qmi):=⟨rfl,rfl,rfl,by decide +kernel,rfl,by decide +kernel,by decide +kernel⟩
abbrev Qmn:Stmt:=Qar (top 41) 0
theorem Qsu:Qaa ["self", "kind", "word", "numbers", "parts", "part"] ["self", "kind", "word", "numbers", "parts"] (Qa1 Qmn):=⟨rfl,rfl,rfl,by decide +kernel,rfl,by decide +kernel,by decide +kernel⟩
abbrev Qmk:Stmt:=top 42
theorem Qsr:Qaa ["kind", "parts", "levels", "part"] ["kind", "parts"] (Qa1 Qmk):=⟨rfl,rfl,rfl,by decide +kernel,rfl,by decide +kernel,by decide +kernel⟩
abbrev Qmq:Stmt:=top 43
theorem Qwc:Qaa ["node"] ["node"] (Qa1 Qmq):=⟨rfl,rfl,rfl,by decide +kernel,rfl,by decide +kernel,by decide +kernel⟩
abbrev Qn8:Stmt:=Qar (top 44) 0
theorem Qwo:Qaa ["self", "name", "node"] ["self", "name", "node"] (Qa1 Qn8):=⟨rfl,rfl,rfl,by decide +kernel,rfl,by decide +kernel,by decide +kernel⟩
abbrev Qmz:Stmt:=Qar (top 45) 0
theorem Qsz:Qaa ["self", "statements", "expression", "atoms", "inputs", "statement"] ["self", "statements", "expression", "atoms", "inputs"] (Qa1 Qmz):=⟨rfl,rfl,rfl,by decide +kernel,rfl,by decide +kernel,by decide +kernel⟩
abbrev Qn2:Stmt:=top 46
theorem Qwj:Qaa ["numbers"] ["numbers"] (Qa1 Qn2):=⟨rfl,rfl,rfl,by decide +kernel,rfl,by decide +kernel,by decide +kernel⟩
abbrev Qmo:Stmt:=top 47
theorem Qwa:Qaa ["kind", "word"] ["kind", "word"] (Qa1 Qmo):=⟨rfl,rfl,rfl,by decide +kernel,rfl,by decide +kernel,by decide +kernel⟩
abbrev Qmj:Stmt:=top 48
theorem Qw9:Qaa ["expression"] ["expression"] (Qa1 Qmj):=⟨rfl,rfl,rfl,by decide +kernel,rfl,by decide +kernel,by decide +kernel⟩
abbrev Qn4:Stmt:=top 49
theorem Qwl:Qaa ["modifier", "rank", "function"] ["modifier", "rank", "function"] (Qa1 Qn4):=⟨rfl,rfl,rfl,by decide +kernel,rfl,by decide +kernel,by decide +kernel⟩
abbrev Qn3:Stmt:=top 50
theorem Qwk:Qaa ["left", "function", "right"] ["left", "function", "right"] (Qa1 Qn3):=⟨rfl,rfl,rfl,by decide +kernel,rfl,by decide +kernel,by decide +kernel⟩
abbrev Qmw:Stmt:=Qar (top 57) 0
theorem Qwg:Qaa ["self", "tokens"] ["self", "tokens"] (Qa1 Qmw):=⟨rfl,rfl,rfl,by decide +kernel,rfl,by decide +kernel,by decide +kernel⟩
abbrev s_qt:Stmt:=Qar (top 57) 1
theorem sc_qt:Qaa ["self"] ["self"] (Qa1 s_qt):=⟨rfl,rfl,rfl,by decide +kernel,rfl,by decide +kernel,by decide +kernel⟩
abbrev Qmy:Stmt:=Qar (top 57) 2
theorem Qsy:Qaa ["self", "token"] ["self"] (Qa1 Qmy):=⟨rfl,rfl,rfl,by decide +kernel,rfl,by decide +kernel,by decide +kernel⟩
abbrev s_qr:Stmt:=Qar (top 57) 3
theorem sc_qr:Qaa ["self", "kind"] ["self", "kind"] (Qa1 s_qr):=⟨rfl,rfl,rfl,by decide +kernel,rfl,by decide +kernel,by decide +kernel⟩
abbrev s_qa:Stmt:=Qar (top 57) 4
theorem Qwq:Qaa ["self", "statements"] ["self"] (Qa1 s_qa):=⟨rfl,rfl,rfl,by decide +kernel,rfl,by decide +kernel,by decide +kernel⟩
abbrev s_qp:Stmt:=Qar (top 57) 5
theorem Qvx:Qaa ["self", "expression"] ["self"] (Qa1 s_qp):=⟨rfl,rfl,rfl,by decide +kernel,rfl,by decide +kernel,by decide +kernel⟩
abbrev s_qc:Stmt:=Qar (top 57) 6
theorem Qw5:Qaa ["self", "given", "node"] ["self"] (Qa1 s_qc):=⟨rfl,rfl,rfl,by decide +kernel,rfl,by decide +kernel,by decide +kernel⟩
abbrev s_qb:Stmt:=Qar (top 57) 7
theorem Qu0:Qaa ["self", "level", "waiting", "left"] ["self", "level"] (Qa1 s_qb):=⟨rfl,rfl,rfl,by decide +kernel,rfl,by decide +kernel,by decide +kernel⟩
abbrev s_qe:Stmt:=Qar (top 57) 8
theorem Qw3:Qaa ["self", "level", "expression"] ["self", "level"] (Qa1 s_qe):=⟨rfl,rfl,rfl,by decide +kernel,rfl,by decide +kernel,by decide +kernel⟩
abbrev s_qf:Stmt:=Qar (top 57) 9
theorem Qw2:Qaa ["self", "numbers"] ["self"] (Qa1 s_qf):=⟨rfl,rfl,rfl,by decide +kernel,rfl,by decide +kernel,by decide +kernel⟩
abbrev s_qd:Stmt:=Qar (top 57) 10
theorem Qw4:Qaa ["self", "level", "function", "modifier", "rank"] ["self", "level"] (Qa1 s_qd):=⟨rfl,rfl,rfl,by decide +kernel,rfl,by decide +kernel,by decide +kernel⟩
abbrev s_qq:Stmt:=Qar (top 57) 11
theorem Qvw:Qaa ["self", "level", "word", "expression"] ["self", "level"] (Qa1 s_qq):=⟨rfl,rfl,rfl,by decide +kernel,rfl,by decide +kernel,by decide +kernel⟩
abbrev s_qs:Stmt:=Qar (top 57) 12
theorem Qvv:Qaa ["self", "token", "rank"] ["self"] (Qa1 s_qs):=⟨rfl,rfl,rfl,by decide +kernel,rfl,by decide +kernel,by decide +kernel⟩
abbrev s_qg:Stmt:=top 58
theorem Qw1:Qaa ["waiting", "last", "right", "pair"] ["waiting", "last"] (Qa1 s_qg):=⟨rfl,rfl,rfl,by decide +kernel,rfl,by decide +kernel,by decide +kernel⟩
abbrev Qmv:Stmt:=top 61
theorem Qwf:Qaa ["program"] ["program"] (Qa1 Qmv):=⟨rfl,rfl,rfl,by decide +kernel,rfl,by decide +kernel,by decide +kernel⟩
abbrev Qmu:Stmt:=top 62
theorem Qsw:Qaa ["form", "sign"] ["form"] (Qa1 Qmu):=⟨rfl,rfl,rfl,by decide +kernel,rfl,by decide +kernel,by decide +kernel⟩
abbrev s_qu:Stmt:=top 63
theorem Qvu:Qaa ["program", "pieces", "statement"] ["program"] (Qa1 s_qu):=⟨rfl,rfl,rfl,by decide +kernel,rfl,by decide +kernel,by decide +kernel⟩
abbrev s_qm:Stmt:=top 64
theorem sc_qm:Qaa ["statement"] ["statement"] (Qa1 s_qm):=⟨rfl,rfl,rfl,by decide +kernel,rfl,by decide +kernel,by decide +kernel⟩
abbrev Qmd:Stmt:=top 65
theorem Qso:Qaa ["node"] ["node"] (Qa1 Qmd):=⟨rfl,rfl,rfl,by decide +kernel,rfl,by decide +kernel,by decide +kernel⟩
abbrev Qn1:Stmt:=top 66
theorem Qwi:Qaa ["node"] ["node"] (Qa1 Qn1):=⟨rfl,rfl,rfl,by decide +kernel,rfl,by decide +kernel,by decide +kernel⟩
abbrev s_qo:Stmt:=top 67
theorem Qvy:Qaa ["node", "modified"] ["node"] (Qa1 s_qo):=⟨rfl,rfl,rfl,by decide +kernel,rfl,by decide +kernel,by decide +kernel⟩
abbrev s_qv:Stmt:=top 68
theorem Qvt:Qaa ["numbers", "number"] ["numbers"] (Qa1 s_qv):=⟨rfl,rfl,rfl,by decide +kernel,rfl,by decide +kernel,by decide +kernel⟩
abbrev Qn7:Stmt:=top 69
theorem Qwn:Qaa ["number"] ["number"] (Qa1 Qn7):=⟨rfl,rfl,rfl,by decide +kernel,rfl,by decide +kernel,by decide +kernel⟩
abbrev Qma:Stmt:=top 73
theorem Qsm:Qaa ["text", "tokens", "reader", "statements", "expression", "program"] ["text"] (Qa1 Qma):=⟨rfl,rfl,rfl,by decide +kernel,rfl,by decide +kernel,by decide +kernel⟩
abbrev Qmb:Stmt:=top 75
theorem Qw6:Qaa ["text"] ["text"] (Qa1 Qmb):=⟨rfl,rfl,rfl,by decide +kernel,rfl,by decide +kernel,by decide +kernel⟩
abbrev Qmf:Stmt:=top 76
theorem Qsp:Qaa ["text", "tell", "numbers", "refusal"] ["text", "tell"] (Qa1 Qmf):=⟨rfl,rfl,rfl,by decide +kernel,rfl,by decide +kernel,by decide +kernel⟩
set_option genInjectivity false in
set_option genSizeOf false in
structure Ad where
 wd:World
 c_Refused:Addr
 f_qaj:Addr
 fd_qaj:FuncData
 c_LongFault:Addr
 f_qad:Addr
 fd_qad:FuncData
 c_TokenFault:Addr
 f_qw:Addr
 fd_qw:FuncData
 c_SyntaxFault:Addr
 f_qn:Addr
 fd_qn:FuncData
 c_DeepFault:Addr
 f_qaa:Addr
 fd_qaa:FuncData
 c_NameFault:Addr
 f_qz:Addr
 fd_qz:FuncData
 c_TwiceFault:Addr
 f_qy:Addr
 fd_qy:FuncData
 c_DepthFault:Addr
 f_qx:Addr
 fd_qx:FuncData
 c_LongFormFault:Addr
 f_qk:Addr
 fd_qk:FuncData
 p_PRIMITIVE_WORDS:Addr
 p_ARGUMENTS:Addr
 c_Names:Addr
 f_qar:Addr
 fd_qar:FuncData
 f_qau:Addr
 fd_qau:FuncData
 f_qh:Addr
 fd_qh:FuncData
 f_ql:Addr
 fd_ql:FuncData
 f_qi:Addr
 fd_qi:FuncData
 f_qj:Addr
 fd_qj:FuncData
 f_qay:Addr
 fd_qay:FuncData
 p_SIGNS_BETWEEN_TOKENS:Addr
 p_BLANKS:Addr
 p_SIGNS_OF_TWO:Addr
 p_SIGNS_OF_ONE:Addr
 p_PRIMITIVE_SIGNS:Addr
 p_MODIFIERS:Addr
 c_Token:Addr
 f_qaq:Addr
 fd_qaq:FuncData
 f_cut:Addr
 fd_cut:FuncData
 f_qbf:Addr
 fd_qbf:FuncData
 f_qae:Addr
 fd_qae:FuncData
 f_qbc:Addr
 fd_qbc:FuncData
 f_qax:Addr
 fd_qax:FuncData
 f_qbh:Addr
 fd_qbh:FuncData
 f_qam:Addr
 fd_qam:FuncData
 f_qbd:Addr
 fd_qbd:FuncData
 f_qas:Addr
 fd_qas:FuncData
 f_qbb:Addr
 fd_qbb:FuncData
 p_APPLIED_KINDS:Addr
 c_Node:Addr
 f_qaw:Addr
 fd_qaw:FuncData
 f_qaz:Addr
 fd_qaz:FuncData
 f_qat:Addr
 fd_qat:FuncData
 c_Statement:Addr
 f_qab:Addr
 fd_qab:FuncData
 c_Program:Addr
 f_qak:Addr
 fd_qak:FuncData
 f_qah:Addr
 fd_qah:FuncData
 f_qav:Addr
 fd_qav:FuncData
 f_qba:Addr
 fd_qba:FuncData
 f_qaf:Addr
 fd_qaf:FuncData
 f_qag:Addr
 fd_qag:FuncData
 p_GIVEN_KINDS:Addr
 p_OPERAND_BEGINS:Addr
 p_FUNCTION_BEGINS:Addr
 c_Reader:Addr
 f_qan:Addr
 fd_qan:FuncData
 f_qt:Addr
 fd_qt:FuncData
 f_qal:Addr
 fd_qal:FuncData
 f_qr:Addr
 fd_qr:FuncData
 f_qa:Addr
 fd_qa:FuncData
 f_qp:Addr
 fd_qp:FuncData
 f_qc:Addr
 fd_qc:FuncData
 f_qb:Addr
 fd_qb:FuncData
 f_qe:Addr
 fd_qe:FuncData
 f_qf:Addr
 fd_qf:FuncData
 f_qd:Addr
 fd_qd:FuncData
 f_qq:Addr
 fd_qq:FuncData
 f_qs:Addr
 fd_qs:FuncData
 f_qg:Addr
 fd_qg:FuncData
 f_qao:Addr
 fd_qao:FuncData
 f_qap:Addr
 fd_qap:FuncData
 f_qu:Addr
 fd_qu:FuncData
 f_qm:Addr
 fd_qm:FuncData
 f_qbg:Addr
 fd_qbg:FuncData
 f_qai:Addr
 fd_qai:FuncData
 f_qo:Addr
 fd_qo:FuncData
 f_qv:Addr
 fd_qv:FuncData
 f_qac:Addr
 fd_qac:FuncData
 f_qbj:Addr
 fd_qbj:FuncData
 f_qbi:Addr
 fd_qbi:FuncData
 f_qbe:Addr
 fd_qbe:FuncData
structure Txt (K:W.Frag) (mg:Str→Option Value) (a:Ad):Prop where
 g_Refused:mg "Refused" = some (.ref a.c_Refused)
 F_qaj:Fun K "__init__" "Refused.__init__" Qn0 a.f_qaj a.fd_qaj
 B_qaj:Qal K a.fd_qaj ["self", "number", "position"] []
 em_Refused:EMk K a.c_Refused a.f_qaj
 sb_Refused:subE K a.c_Refused a.c_Refused = true
 n_Refused_number:Qah K a.c_Refused "number"
 n_Refused_position:Qah K a.c_Refused "position"
 ub_Refused:Unb K a.c_Refused "__init__" a.f_qaj
 g_LongFault:mg "LongFault" = some (.ref a.c_LongFault)
 F_qad:Fun K "__init__" "LongFault.__init__" Qn6 a.f_qad a.fd_qad
 B_qad:Qal K a.fd_qad ["self"] []
 em_LongFault:EMk K a.c_LongFault a.f_qad
 sb_LongFault:subE K a.c_LongFault a.c_Refused = true
 n_LongFault_number:Qah K a.c_LongFault "number"
 n_LongFault_position:Qah K a.c_LongFault "position"
 g_TokenFault:mg "TokenFault" = some (.ref a.c_TokenFault)
 F_qw:Fun K "__init__" "TokenFault.__init__" s_qw a.f_qw a.fd_qw
 B_qw:Qal K a.fd_qw ["self", "position"] []
 em_TokenFault:EMk K a.c_TokenFault a.f_qw
 sb_TokenFault:subE K a.c_TokenFault a.c_Refused = true
 n_TokenFault_number:Qah K a.c_TokenFault "number"
 n_TokenFault_position:Qah K a.c_TokenFault "position"
 g_SyntaxFault:mg "SyntaxFault" = some (.ref a.c_SyntaxFault)
 F_qn:Fun K "__init__" "SyntaxFault.__init__" s_qn a.f_qn a.fd_qn
 B_qn:Qal K a.fd_qn ["self", "position"] []
 em_SyntaxFault:EMk K a.c_SyntaxFault a.f_qn
 sb_SyntaxFault:subE K a.c_SyntaxFault a.c_Refused = true
 n_SyntaxFault_number:Qah K a.c_SyntaxFault "number"
 n_SyntaxFault_position:Qah K a.c_SyntaxFault "position"
 g_DeepFault:mg "DeepFault" = some (.ref a.c_DeepFault)
 F_qaa:Fun K "__init__" "DeepFault.__init__" Qn9 a.f_qaa a.fd_qaa
 B_qaa:Qal K a.fd_qaa ["self", "position"] []
 em_DeepFault:EMk K a.c_DeepFault a.f_qaa
 sb_DeepFault:subE K a.c_DeepFault a.c_Refused = true
 n_DeepFault_number:Qah K a.c_DeepFault "number"
 n_DeepFault_position:Qah K a.c_DeepFault "position"
 g_NameFault:mg "NameFault" = some (.ref a.c_NameFault)
 F_qz:Fun K "__init__" "NameFault.__init__" s_qz a.f_qz a.fd_qz
 B_qz:Qal K a.fd_qz ["self", "position"] []
 em_NameFault:EMk K a.c_NameFault a.f_qz
 sb_NameFault:subE K a.c_NameFault a.c_Refused = true
 n_NameFault_number:Qah K a.c_NameFault "number"
 n_NameFault_position:Qah K a.c_NameFault "position"
 g_TwiceFault:mg "TwiceFault" = some (.ref a.c_TwiceFault)
 F_qy:Fun K "__init__" "TwiceFault.__init__" s_qy a.f_qy a.fd_qy
 B_qy:Qal K a.fd_qy ["self", "position"] []
 em_TwiceFault:EMk K a.c_TwiceFault a.f_qy
 sb_TwiceFault:subE K a.c_TwiceFault a.c_Refused = true
 n_TwiceFault_number:Qah K a.c_TwiceFault "number"
 n_TwiceFault_position:Qah K a.c_TwiceFault "position"
 g_DepthFault:mg "DepthFault" = some (.ref a.c_DepthFault)
 F_qx:Fun K "__init__" "DepthFault.__init__" s_qx a.f_qx a.fd_qx
 B_qx:Qal K a.fd_qx ["self"] []
 em_DepthFault:EMk K a.c_DepthFault a.f_qx
 sb_DepthFault:subE K a.c_DepthFault a.c_Refused = true
 n_DepthFault_number:Qah K a.c_DepthFault "number"
 n_DepthFault_position:Qah K a.c_DepthFault "position"
 g_LongFormFault:mg "LongFormFault" = some (.ref a.c_LongFormFault)
 F_qk:Fun K "__init__" "LongFormFault.__init__" s_qk a.f_qk a.fd_qk
 B_qk:Qal K a.fd_qk ["self"] []
 em_LongFormFault:EMk K a.c_LongFormFault a.f_qk
 sb_LongFormFault:subE K a.c_LongFormFault a.c_Refused = true
 n_LongFormFault_number:Qah K a.c_LongFormFault "number"
 n_LongFormFault_position:Qah K a.c_LongFormFault "position"
 g_PRIMITIVE_WORDS:mg "PRIMITIVE_WORDS" = some (.ref a.p_PRIMITIVE_WORDS)
 q_PRIMITIVE_WORDS:∀ H,SqT K H a.p_PRIMITIVE_WORDS (([[65,98,115],[65,110,100],[67,111,117,110,116],[68,105,118],[68,114,111,112],[70,105,110,100],[70,105,114,115,116],[70,108,105,112],[71,114,97,100,101],[73,111,116,97],[74,111,105,110],[75,101,101,112],[77,97,120],[77,105,110],[77,111,100],[78,111,116],[79,114],[80,105,99,107],[82,97,118,101,108],[82,101,115,104,97,112,101],[82,111,116,97,116,101],[83,97,109,101],[83,104,97,112,101],[83,105,103,110],[84,97,107,101],[84,117,114,110],[87,104,101,114,101]]:List (List Nat)).map fun x=>V.str ⟨x.toArray⟩)
 g_ARGUMENTS:mg "ARGUMENTS" = some (.ref a.p_ARGUMENTS)
 q_ARGUMENTS:∀ H,SqT K H a.p_ARGUMENTS (([[120],[121]]:List (List Nat)).map fun x=>V.str ⟨x.toArray⟩)
 g_Names:mg "Names" = some (.ref a.c_Names)
 F_qar:Fun K "__init__" "Names.__init__" Qms a.f_qar a.fd_qar
 B_qar:Qal K a.fd_qar ["self"] []
 F_qau:Fun K "give" "Names.give" Qmp a.f_qau a.fd_qau
 B_qau:Qal K a.fd_qau ["self", "token", "own"] []
 m_qau:Meth K a.c_Names "give" a.f_qau
 F_qh:Fun K "refuse_twice" "Names.refuse_twice" s_qh a.f_qh a.fd_qh
 B_qh:Qal K a.fd_qh ["self", "token", "own"] []
 m_qh:Meth K a.c_Names "refuse_twice" a.f_qh
 F_ql:Fun K "mention_all" "Names.mention_all" s_ql a.f_ql a.fd_ql
 B_ql:Qal K a.fd_ql ["self", "tokens"] []
 m_ql:Meth K a.c_Names "mention_all" a.f_ql
 F_qi:Fun K "mention_name" "Names.mention_name" s_qi a.f_qi a.fd_qi
 B_qi:Qal K a.fd_qi ["self", "token", "within_body"] []
 m_qi:Meth K a.c_Names "mention_name" a.f_qi
 F_qj:Fun K "mention_word" "Names.mention_word" s_qj a.f_qj a.fd_qj
 B_qj:Qal K a.fd_qj ["self", "token"] []
 m_qj:Meth K a.c_Names "mention_word" a.f_qj
 cl_Names:Cls K a.c_Names
 mk_Names:Mk K a.c_Names a.f_qar
 n_Names_given:Qah K a.c_Names "given"
 n_Names_inputs:Qah K a.c_Names "inputs"
 F_qay:Fun K "inputs_of" "inputs_of" Qml a.f_qay a.fd_qay
 B_qay:Qal K a.fd_qay ["tokens"] []
 g_qay:mg "inputs_of" = some (.ref a.f_qay)
 g_FIRST_SIGN:∃ u,mg "FIRST_SIGN" = some u∧RelV (.int (40)) u
 g_SIGNS:∃ u,mg "SIGNS" = some u∧RelV (.str ⟨#[40,41,42,43,44,45,46,47,48,49,50,51,52,53,54,55,56,57,58,59,60,61,62,63,64,65,66,67,68,69,70,71,72,73,74,75,76,77,78,79,80,81,82,83,84,85,86,87,88,89,90,91,92,93,94,95,96,97,98,99,100,101,102,103,104,105,106,107,108,109,110,111,112,113,114,115,116,117,118,119,120,121,122,123,124,125]⟩) u
 y_SIGNS_BETWEEN_TOKENS:(a.p_SIGNS_BETWEEN_TOKENS == sysModules) = false
 g_SIGNS_BETWEEN_TOKENS:mg "SIGNS_BETWEEN_TOKENS" = some (.ref a.p_SIGNS_BETWEEN_TOKENS)
 q_SIGNS_BETWEEN_TOKENS:∃ (n:Nat) (t0 u0 t1 u1 t2 u2 t3 u3 t4 u4:Tok),K.lookup a.p_SIGNS_BETWEEN_TOKENS = some ⟨.type "dict",none, .dict #[⟨9, .int 9 t0, .str ⟨#[32]⟩ u0⟩,⟨10, .int 10 t1, .str ⟨#[10]⟩ u1⟩,⟨13, .int 13 t2, .str ⟨#[32]⟩ u2⟩,⟨32, .int 32 t3, .str ⟨#[32]⟩ u3⟩,⟨35, .int 35 t4, .str ⟨#[35]⟩ u4⟩] n,#[]⟩
 g_NO_SIGN:∃ u,mg "NO_SIGN" = some u∧RelV (.str ⟨#[63]⟩) u
 g_BLANKS:mg "BLANKS" = some (.ref a.p_BLANKS)
 q_BLANKS:∀ H,SqT K H a.p_BLANKS (([[32],[10]]:List (List Nat)).map fun x=>V.str ⟨x.toArray⟩)
 g_SIGNS_OF_TWO:mg "SIGNS_OF_TWO" = some (.ref a.p_SIGNS_OF_TWO)
 q_SIGNS_OF_TWO:∀ H,SqT K H a.p_SIGNS_OF_TWO (([[58,61],[60,61],[47,61]]:List (List Nat)).map fun x=>V.str ⟨x.toArray⟩)
 g_SIGNS_OF_ONE:mg "SIGNS_OF_ONE" = some (.ref a.p_SIGNS_OF_ONE)
 q_SIGNS_OF_ONE:∀ H,SqT K H a.p_SIGNS_OF_ONE (([[40],[41],[123],[125],[59],[43],[45],[42],[60],[61]]:List (List Nat)).map fun x=>V.str ⟨x.toArray⟩)
 g_PRIMITIVE_SIGNS:mg "PRIMITIVE_SIGNS" = some (.ref a.p_PRIMITIVE_SIGNS)
 q_PRIMITIVE_SIGNS:∀ H,SqT K H a.p_PRIMITIVE_SIGNS (([[43],[45],[42],[60],[60,61],[61],[47,61]]:List (List Nat)).map fun x=>V.str ⟨x.toArray⟩)
 g_MODIFIERS:mg "MODIFIERS" = some (.ref a.p_MODIFIERS)
 q_MODIFIERS:∀ H,SqT K H a.p_MODIFIERS (([[58,102,111,108,100],[58,115,99,97,110],[58,116,97,98,108,101],[58,115,119,97,112],[58,97,116]]:List (List Nat)).map fun x=>V.str ⟨x.toArray⟩)
 g_MOST_DIGITS:∃ u,mg "MOST_DIGITS" = some u∧RelV (.int (19)) u
 g_LARGEST_NUMBER:∃ u,mg "LARGEST_NUMBER" = some u∧RelV (.int (1000000000000000000)) u
 g_LONGEST_NAME:∃ u,mg "LONGEST_NAME" = some u∧RelV (.int (16)) u
 g_Token:mg "Token" = some (.ref a.c_Token)
 F_qaq:Fun K "__init__" "Token.__init__" Qmt a.f_qaq a.fd_qaq
 B_qaq:Qal K a.fd_qaq ["self", "kind", "position", "spelling"] []
 cl_Token:Cls K a.c_Token
 mk_Token:Mk K a.c_Token a.f_qaq
 n_Token_kind:Qah K a.c_Token "kind"
 n_Token_position:Qah K a.c_Token "position"
 n_Token_spelling:Qah K a.c_Token "spelling"
 F_cut:Fun K "cut" "cut" Qna a.f_cut a.fd_cut
 B_cut:Qal K a.fd_cut ["text"] []
 g_cut:mg "cut" = some (.ref a.f_cut)
 F_qbf:Fun K "sign_of" "sign_of" Qme a.f_qbf a.fd_qbf
 B_qbf:Qal K a.fd_qbf ["byte"] []
 g_qbf:mg "sign_of" = some (.ref a.f_qbf)
 F_qae:Fun K "behind_comment" "behind_comment" Qn5 a.f_qae a.fd_qae
 B_qae:Qal K a.fd_qae ["source", "place"] []
 g_qae:mg "behind_comment" = some (.ref a.f_qae)
 F_qbc:Fun K "token_at" "token_at" Qmh a.f_qbc a.fd_qbc
 B_qbc:Qal K a.fd_qbc ["source", "place"] []
 g_qbc:mg "token_at" = some (.ref a.f_qbc)
 F_qax:Fun K "number_at" "number_at" Qmm a.f_qax a.fd_qax
 B_qax:Qal K a.fd_qax ["source", "place"] []
 g_qax:mg "number_at" = some (.ref a.f_qax)
 F_qbh:Fun K "name_at" "name_at" Qmc a.f_qbh a.fd_qbh
 B_qbh:Qal K a.fd_qbh ["source", "place", "kind"] []
 g_qbh:mg "name_at" = some (.ref a.f_qbh)
 F_qam:Fun K "modifier_at" "modifier_at" Qmx a.f_qam a.fd_qam
 B_qam:Qal K a.fd_qam ["source", "place"] []
 g_qam:mg "modifier_at" = some (.ref a.f_qam)
 F_qbd:Fun K "run_stop" "run_stop" Qmg a.f_qbd a.fd_qbd
 B_qbd:Qal K a.fd_qbd ["source", "place"] []
 g_qbd:mg "run_stop" = some (.ref a.f_qbd)
 F_qas:Fun K "sign_token" "sign_token" Qmr a.f_qas a.fd_qas
 B_qas:Qal K a.fd_qas ["sign", "place"] []
 g_qas:mg "sign_token" = some (.ref a.f_qas)
 F_qbb:Fun K "number_of" "number_of" Qmi a.f_qbb a.fd_qbb
 B_qbb:Qal K a.fd_qbb ["token"] []
 g_qbb:mg "number_of" = some (.ref a.f_qbb)
 g_APPLIED_KINDS:mg "APPLIED_KINDS" = some (.ref a.p_APPLIED_KINDS)
 q_APPLIED_KINDS:∀ H,SqT K H a.p_APPLIED_KINDS (([[111,110,101],[116,119,111]]:List (List Nat)).map fun x=>V.str ⟨x.toArray⟩)
 g_Node:mg "Node" = some (.ref a.c_Node)
 F_qaw:Fun K "__init__" "Node.__init__" Qmn a.f_qaw a.fd_qaw
 B_qaw:Qal K a.fd_qaw ["self", "kind", "word", "numbers", "parts"] []
 cl_Node:Cls K a.c_Node
 mk_Node:Mk K a.c_Node a.f_qaw
 n_Node_kind:Qah K a.c_Node "kind"
 n_Node_word:Qah K a.c_Node "word"
 n_Node_numbers:Qah K a.c_Node "numbers"
 n_Node_parts:Qah K a.c_Node "parts"
 n_Node_depth:Qah K a.c_Node "depth"
 n_Node_levels:Qah K a.c_Node "levels"
 n_Node_nodes:Qah K a.c_Node "nodes"
 F_qaz:Fun K "levels_of" "levels_of" Qmk a.f_qaz a.fd_qaz
 B_qaz:Qal K a.fd_qaz ["kind", "parts"] []
 g_qaz:mg "levels_of" = some (.ref a.f_qaz)
 F_qat:Fun K "is_applied" "is_applied" Qmq a.f_qat a.fd_qat
 B_qat:Qal K a.fd_qat ["node"] []
 g_qat:mg "is_applied" = some (.ref a.f_qat)
 g_Statement:mg "Statement" = some (.ref a.c_Statement)
 F_qab:Fun K "__init__" "Statement.__init__" Qn8 a.f_qab a.fd_qab
 B_qab:Qal K a.fd_qab ["self", "name", "node"] []
 cl_Statement:Cls K a.c_Statement
 mk_Statement:Mk K a.c_Statement a.f_qab
 n_Statement_name:Qah K a.c_Statement "name"
 n_Statement_node:Qah K a.c_Statement "node"
 g_Program:mg "Program" = some (.ref a.c_Program)
 F_qak:Fun K "__init__" "Program.__init__" Qmz a.f_qak a.fd_qak
 B_qak:Qal K a.fd_qak ["self", "statements", "expression", "atoms", "inputs"] []
 cl_Program:Cls K a.c_Program
 mk_Program:Mk K a.c_Program a.f_qak
 n_Program_statements:Qah K a.c_Program "statements"
 n_Program_expression:Qah K a.c_Program "expression"
 n_Program_atoms:Qah K a.c_Program "atoms"
 n_Program_inputs:Qah K a.c_Program "inputs"
 n_Program_depth:Qah K a.c_Program "depth"
 F_qah:Fun K "numbers_node" "numbers_node" Qn2 a.f_qah a.fd_qah
 B_qah:Qal K a.fd_qah ["numbers"] []
 g_qah:mg "numbers_node" = some (.ref a.f_qah)
 F_qav:Fun K "word_node" "word_node" Qmo a.f_qav a.fd_qav
 B_qav:Qal K a.fd_qav ["kind", "word"] []
 g_qav:mg "word_node" = some (.ref a.f_qav)
 F_qba:Fun K "body_node" "body_node" Qmj a.f_qba a.fd_qba
 B_qba:Qal K a.fd_qba ["expression"] []
 g_qba:mg "body_node" = some (.ref a.f_qba)
 F_qaf:Fun K "modified_node" "modified_node" Qn4 a.f_qaf a.fd_qaf
 B_qaf:Qal K a.fd_qaf ["modifier", "rank", "function"] []
 g_qaf:mg "modified_node" = some (.ref a.f_qaf)
 F_qag:Fun K "applied_node" "applied_node" Qn3 a.f_qag a.fd_qag
 B_qag:Qal K a.fd_qag ["left", "function", "right"] []
 g_qag:mg "applied_node" = some (.ref a.f_qag)
 g_MOST_LEVELS:∃ u,mg "MOST_LEVELS" = some u∧RelV (.int (30)) u
 g_LARGEST_RANK:∃ u,mg "LARGEST_RANK" = some u∧RelV (.int (5)) u
 g_GIVEN_KINDS:mg "GIVEN_KINDS" = some (.ref a.p_GIVEN_KINDS)
 q_GIVEN_KINDS:∀ H,SqT K H a.p_GIVEN_KINDS (([[110,97,109,101],[119,111,114,100]]:List (List Nat)).map fun x=>V.str ⟨x.toArray⟩)
 g_OPERAND_BEGINS:mg "OPERAND_BEGINS" = some (.ref a.p_OPERAND_BEGINS)
 q_OPERAND_BEGINS:∀ H,SqT K H a.p_OPERAND_BEGINS (([[110,117,109,98,101,114],[110,97,109,101],[40]]:List (List Nat)).map fun x=>V.str ⟨x.toArray⟩)
 g_FUNCTION_BEGINS:mg "FUNCTION_BEGINS" = some (.ref a.p_FUNCTION_BEGINS)
 q_FUNCTION_BEGINS:∀ H,SqT K H a.p_FUNCTION_BEGINS (([[112,114,105,109,105,116,105,118,101],[119,111,114,100],[123]]:List (List Nat)).map fun x=>V.str ⟨x.toArray⟩)
 g_Reader:mg "Reader" = some (.ref a.c_Reader)
 F_qan:Fun K "__init__" "Reader.__init__" Qmw a.f_qan a.fd_qan
 B_qan:Qal K a.fd_qan ["self", "tokens"] []
 F_qt:Fun K "kind_here" "Reader.kind_here" s_qt a.f_qt a.fd_qt
 B_qt:Qal K a.fd_qt ["self"] []
 m_qt:Meth K a.c_Reader "kind_here" a.f_qt
 F_qal:Fun K "take" "Reader.take" Qmy a.f_qal a.fd_qal
 B_qal:Qal K a.fd_qal ["self"] []
 m_qal:Meth K a.c_Reader "take" a.f_qal
 F_qr:Fun K "take_kind" "Reader.take_kind" s_qr a.f_qr a.fd_qr
 B_qr:Qal K a.fd_qr ["self", "kind"] []
 m_qr:Meth K a.c_Reader "take_kind" a.f_qr
 F_qa:Fun K "read_statements" "Reader.read_statements" s_qa a.f_qa a.fd_qa
 B_qa:Qal K a.fd_qa ["self"] []
 m_qa:Meth K a.c_Reader "read_statements" a.f_qa
 F_qp:Fun K "read_last" "Reader.read_last" s_qp a.f_qp a.fd_qp
 B_qp:Qal K a.fd_qp ["self"] []
 m_qp:Meth K a.c_Reader "read_last" a.f_qp
 F_qc:Fun K "read_statement" "Reader.read_statement" s_qc a.f_qc a.fd_qc
 B_qc:Qal K a.fd_qc ["self"] []
 m_qc:Meth K a.c_Reader "read_statement" a.f_qc
 F_qb:Fun K "read_expression" "Reader.read_expression" s_qb a.f_qb a.fd_qb
 B_qb:Qal K a.fd_qb ["self", "level"] []
 m_qb:Meth K a.c_Reader "read_expression" a.f_qb
 F_qe:Fun K "read_operand" "Reader.read_operand" s_qe a.f_qe a.fd_qe
 B_qe:Qal K a.fd_qe ["self", "level"] []
 m_qe:Meth K a.c_Reader "read_operand" a.f_qe
 F_qf:Fun K "read_numbers" "Reader.read_numbers" s_qf a.f_qf a.fd_qf
 B_qf:Qal K a.fd_qf ["self"] []
 m_qf:Meth K a.c_Reader "read_numbers" a.f_qf
 F_qd:Fun K "read_function" "Reader.read_function" s_qd a.f_qd a.fd_qd
 B_qd:Qal K a.fd_qd ["self", "level"] []
 m_qd:Meth K a.c_Reader "read_function" a.f_qd
 F_qq:Fun K "read_atom" "Reader.read_atom" s_qq a.f_qq a.fd_qq
 B_qq:Qal K a.fd_qq ["self", "level"] []
 m_qq:Meth K a.c_Reader "read_atom" a.f_qq
 F_qs:Fun K "read_rank" "Reader.read_rank" s_qs a.f_qs a.fd_qs
 B_qs:Qal K a.fd_qs ["self"] []
 m_qs:Meth K a.c_Reader "read_rank" a.f_qs
 cl_Reader:Cls K a.c_Reader
 mk_Reader:Mk K a.c_Reader a.f_qan
 n_Reader_tokens:Qah K a.c_Reader "tokens"
 n_Reader_place:Qah K a.c_Reader "place"
 n_Reader_atoms:Qah K a.c_Reader "atoms"
 F_qg:Fun K "applied_from_right" "applied_from_right" s_qg a.f_qg a.fd_qg
 B_qg:Qal K a.fd_qg ["waiting", "last"] []
 g_qg:mg "applied_from_right" = some (.ref a.f_qg)
 g_LONGEST_FORM:∃ u,mg "LONGEST_FORM" = some u∧RelV (.int (2048)) u
 F_qao:Fun K "plain_bytes" "plain_bytes" Qmv a.f_qao a.fd_qao
 B_qao:Qal K a.fd_qao ["program"] []
 g_qao:mg "plain_bytes" = some (.ref a.f_qao)
 F_qap:Fun K "form_bytes" "form_bytes" Qmu a.f_qap a.fd_qap
 B_qap:Qal K a.fd_qap ["form"] []
 g_qap:mg "form_bytes" = some (.ref a.f_qap)
 F_qu:Fun K "printed_program" "printed_program" s_qu a.f_qu a.fd_qu
 B_qu:Qal K a.fd_qu ["program"] []
 g_qu:mg "printed_program" = some (.ref a.f_qu)
 F_qm:Fun K "printed_statement" "printed_statement" s_qm a.f_qm a.fd_qm
 B_qm:Qal K a.fd_qm ["statement"] []
 g_qm:mg "printed_statement" = some (.ref a.f_qm)
 F_qbg:Fun K "printed" "printed" Qmd a.f_qbg a.fd_qbg
 B_qbg:Qal K a.fd_qbg ["node"] []
 g_qbg:mg "printed" = some (.ref a.f_qbg)
 F_qai:Fun K "printed_left" "printed_left" Qn1 a.f_qai a.fd_qai
 B_qai:Qal K a.fd_qai ["node"] []
 g_qai:mg "printed_left" = some (.ref a.f_qai)
 F_qo:Fun K "printed_modified" "printed_modified" s_qo a.f_qo a.fd_qo
 B_qo:Qal K a.fd_qo ["node"] []
 g_qo:mg "printed_modified" = some (.ref a.f_qo)
 F_qv:Fun K "printed_numbers" "printed_numbers" s_qv a.f_qv a.fd_qv
 B_qv:Qal K a.fd_qv ["numbers"] []
 g_qv:mg "printed_numbers" = some (.ref a.f_qv)
 F_qac:Fun K "printed_number" "printed_number" Qn7 a.f_qac a.fd_qac
 B_qac:Qal K a.fd_qac ["number"] []
 g_qac:mg "printed_number" = some (.ref a.f_qac)
 g_LONGEST_TEXT:∃ u,mg "LONGEST_TEXT" = some u∧RelV (.int (2048)) u
 g_GREATEST_DEPTH:∃ u,mg "GREATEST_DEPTH" = some u∧RelV (.int (40)) u
 F_qbj:Fun K "read" "read" Qma a.f_qbj a.fd_qbj
 B_qbj:Qal K a.fd_qbj ["text"] []
 g_qbj:mg "read" = some (.ref a.f_qbj)
 F_qbi:Fun K "plain" "plain" Qmb a.f_qbi a.fd_qbi
 B_qbi:Qal K a.fd_qbi ["text"] []
 g_qbi:mg "plain" = some (.ref a.f_qbi)
 F_qbe:Fun K "answered" "answered" Qmf a.f_qbe a.fd_qbe
 B_qbe:Qal K a.fd_qbe ["text", "tell"] []
 g_qbe:mg "answered" = some (.ref a.f_qbe)
 z_int:mg "int" = none
 z_len:mg "len" = none
 z_list:mg "list" = none
 z_max:mg "max" = none
 z_ord:mg "ord" = none
 z_range:mg "range" = none
 z_reversed:mg "reversed" = none
 z_str:mg "str" = none
 z_sum:mg "sum" = none
theorem Qo2 {K:W.Frag} {h:Heap} {mg:Str→Option Value} (X:K.In h) (G:h.Ns mainGlobals mg) (w:World)
  {C_z70 f1 C_z62 f2 C_z59 f3 C_z50 f4 C_z61 f5 C_z68 f6 C_z55 f7 C_z58 f8 C_z33 f9 P_z21 P_z63 C_z76 f10 f11 f12 f13 f14 f15 f16 P_z1 P_z72 P_z38 P_z45 P_z22 P_z66 C_z74 f17 f18 f19 f20 f21 f22 f23 f24 f25 f26 f27 P_z35 C_z77 f28 f29 f30 C_z65 f31 C_z71 f32 f33 f34 f35 f36 f37 P_z49 P_z29 P_z20 C_z73 f38 f39 f40 f41 f42 f43 f44 f45 f46 f47 f48 f49 f50 f51 f52 f53 f54 f55 f56 f57 f58 f59 f60 f61 f62 f63:Addr}
  {od1 an1 od2 an2 od3 an3 od4 an4 od5 an5 od6 an6 od7 an7 od8 an8 od9 an9 od_z21 od_z63 od10 an10 od11 an11 od12 an12 od13 an13 od14 an14 od15 an15 od16 an16 od_z72 od_z38 od_z45 od_z22 od_z66 od17 an17 od18 an18 od19 an19 od20 an20 od21 an21 od22 an22 od23 an23 od24 an24 od25 an25 od26 an26 od27 an27 od_z35 od28 an28 od29 an29 od30 an30 od31 an31 od32 an32 od33 an33 od34 an34 od35 an35 od36 an36 od37 an37 od_z49 od_z29 od_z20 od38 an38 od39 an39 od40 an40 od41 an41 od42 an42 od43 an43 od44 an44 od45 an45 od46 an46 od47 an47 od48 an48 od49 an49 od50 an50 od51 an51 od52 an52 od53 an53 od54 an54 od55 an55 od56 an56 od57 an57 od58 an58 od59 an59 od60 an60 od61 an61 od62 an62 od63 an63:Option Addr}
  {sl1 sl2 sl3 sl4 sl5 sl6 sl7 sl8 sl9 sl_z21 sl_z63 sl10 sl11 sl12 sl13 sl14 sl15 sl16 sl_z72 sl_z38 sl_z45 sl_z22 sl_z66 sl17 sl18 sl19 sl20 sl21 sl22 sl23 sl24 sl25 sl26 sl27 sl_z35 sl28 sl29 sl30 sl31 sl32 sl33 sl34 sl35 sl36 sl37 sl_z49 sl_z29 sl_z20 sl38 sl39 sl40 sl41 sl42 sl43 sl44 sl45 sl46 sl47 sl48 sl49 sl50 sl51 sl52 sl53 sl54 sl55 sl56 sl57 sl58 sl59 sl60 sl61 sl62 sl63:Array (Option Value)}
  {oc1 kV1 dc1 pm1 cd1 ct1 oc2 kV2 dc2 pm2 cd2 ct2 oc3 kV3 dc3 pm3 cd3 ct3 oc4 kV4 dc4 pm4 cd4 ct4 oc5 kV5 dc5 pm5 cd5 ct5 oc6 kV6 dc6 pm6 cd6 ct6 oc7 kV7 dc7 pm7 cd7 ct7 oc8 kV8 dc8 pm8 cd8 ct8 oc9 kV9 dc9 pm9 cd9 ct9 oc10 kV10 dc10 pm10 cd10 ct10 oc11 kV11 dc11 pm11 cd11 ct11 oc12 kV12 dc12 pm12 cd12 ct12 oc13 kV13 dc13 pm13 cd13 ct13 oc14 kV14 dc14 pm14 cd14 ct14 oc15 kV15 dc15 pm15 cd15 ct15 oc16 kV16 dc16 pm16 cd16 ct16 oc17 kV17 dc17 pm17 cd17 ct17 oc18 kV18 dc18 pm18 cd18 ct18 oc19 kV19 dc19 pm19 cd19 ct19 oc20 kV20 dc20 pm20 cd20 ct20 oc21 kV21 dc21 pm21 cd21 ct21 oc22 kV22 dc22 pm22 cd22 ct22 oc23 kV23 dc23 pm23 cd23 ct23 oc24 kV24 dc24 pm24 cd24 ct24 oc25 kV25 dc25 pm25 cd25 ct25 oc26 kV26 dc26 pm26 cd26 ct26 oc27 kV27 dc27 pm27 cd27 ct27 oc28 kV28 dc28 pm28 cd28 ct28 oc29 kV29 dc29 pm29 cd29 ct29 oc30 kV30 dc30 pm30 cd30 ct30 oc31 kV31 dc31 pm31 cd31 ct31 oc32 kV32 dc32 pm32 cd32 ct32 oc33 kV33 dc33 pm33 cd33 ct33 oc34 kV34 dc34 pm34 cd34 ct34 oc35 kV35 dc35 pm35 cd35 ct35 oc36 kV36 dc36 pm36 cd36 ct36 oc37 kV37 dc37 pm37 cd37 ct37 oc38 kV38 dc38 pm38 cd38 ct38 oc39 kV39 dc39 pm39 cd39 ct39 oc40 kV40 dc40 pm40 cd40 ct40 oc41 kV41 dc41 pm41 cd41 ct41 oc42 kV42 dc42 pm42 cd42 ct42 oc43 kV43 dc43 pm43 cd43 ct43 oc44 kV44 dc44 pm44 cd44 ct44 oc45 kV45 dc45 pm45 cd45 ct45 oc46 kV46 dc46 pm46 cd46 ct46 oc47 kV47 dc47 pm47 cd47 ct47 oc48 kV48 dc48 pm48 cd48 ct48 oc49 kV49 dc49 pm49 cd49 ct49 oc50 kV50 dc50 pm50 cd50 ct50 oc51 kV51 dc51 pm51 cd51 ct51 oc52 kV52 dc52 pm52 cd52 ct52 oc53 kV53 dc53 pm53 cd53 ct53 oc54 kV54 dc54 pm54 cd54 ct54 oc55 kV55 dc55 pm55 cd55 ct55 oc56 kV56 dc56 pm56 cd56 ct56 oc57 kV57 dc57 pm57 cd57 ct57 oc58 kV58 dc58 pm58 cd58 ct58 oc59 kV59 dc59 pm59 cd59 ct59 oc60 kV60 dc60 pm60 cd60 ct60 oc61 kV61 dc61 pm61 cd61 ct61 oc62 kV62 dc62 pm62 cd62 ct62 oc63 kV63 dc63 pm63 cd63 ct63:Value}
  {n_z21 n_z63 n_z1 n_z72 n_z38 n_z45 n_z22 n_z66 n_z35 n_z49 n_z29 n_z20:Nat}
  {t0_z21 t1_z21 t2_z21 t3_z21 t4_z21 t5_z21 t6_z21 t7_z21 t8_z21 t9_z21 t10_z21 t11_z21 t12_z21 t13_z21 t14_z21 t15_z21 t16_z21 t17_z21 t18_z21 t19_z21 t20_z21 t21_z21 t22_z21 t23_z21 t24_z21 t25_z21 t26_z21 t0_z63 t1_z63 t_z54 t_z75 t0_z1 u0_z1 t1_z1 u1_z1 t2_z1 u2_z1 t3_z1 u3_z1 t4_z1 u4_z1 t_z69 t0_z72 t1_z72 t0_z38 t1_z38 t2_z38 t0_z45 t1_z45 t2_z45 t3_z45 t4_z45 t5_z45 t6_z45 t7_z45 t8_z45 t9_z45 t0_z22 t1_z22 t2_z22 t3_z22 t4_z22 t5_z22 t6_z22 t0_z66 t1_z66 t2_z66 t3_z66 t4_z66 t_z47 t_z26 t_z46 t0_z35 t1_z35 t_z48 t_z42 t0_z49 t1_z49 t0_z29 t1_z29 t2_z29 t0_z20 t1_z20 t2_z20 t_z39 t_z37 t_z25:Tok}
  (g_z70:W.nsIn K mainGlobals "Refused" = some (some (.ref C_z70)))
  (a1:W.findIn K (.ref C_z70) "__init__" = some (some (.ref f1)))
  (i1:W.isFn K (.ref f1) = true)
  (l1:K.lookup f1 = some ⟨oc1,od1, .func (W.fnOf "__init__" "Refused.__init__" (Qa9 Qn0) (Qa8 Qn0) (Qa1 Qn0) .none kV1 dc1 pm1 an1 cd1 ct1),sl1⟩)
  (c1:W.codeIn K cd1 "Refused.__init__" = true)
  (k1:W.keepIn K (.ref f1) = true)
  (kc_z70:W.keepIn K (.ref C_z70) = true)
  (hd_z70:W.hasDictIn K C_z70 = true)
  (sa_z70:W.findIn K (.ref C_z70) "__setattr__" = some (some (.builtin "object.__setattr__")))
  (ex_z70:Qfb K C_z70 = true)
  (ov_z70:((W.clsIn K C_z70).any fun cd=>Qbz cd.mro) = true)
  (ga_z70:W.findIn K (.ref C_z70) "__getattribute__" = some (some (.builtin "BaseException.__getattribute__")))
  (gx_z70:W.findIn K (.ref C_z70) "__getattr__" = some none)
  (sb_z70:subE K C_z70 C_z70 = true)
  (n_z23:W.findIn K (.ref C_z70) "number" = some none)
  (n_z16:W.findIn K (.ref C_z70) "position" = some none)
  (rd_z70:W.readsIn K C_z70 (.type "type") = true)
  (fc_z70:W.findCls K (.ref C_z70) (.type "type") "__init__" = some (.val (.ref f1)))
  (sp_z70:W.specialIn K (.ref C_z70) "__getattribute__" = some (some (.builtin "type.__getattribute__")))
  (g_z62:W.nsIn K mainGlobals "LongFault" = some (some (.ref C_z62)))
  (a2:W.findIn K (.ref C_z62) "__init__" = some (some (.ref f2)))
  (i2:W.isFn K (.ref f2) = true)
  (l2:K.lookup f2 = some ⟨oc2,od2, .func (W.fnOf "__init__" "LongFault.__init__" (Qa9 Qn6) (Qa8 Qn6) (Qa1 Qn6) .none kV2 dc2 pm2 an2 cd2 ct2),sl2⟩)
  (c2:W.codeIn K cd2 "LongFault.__init__" = true)
  (k2:W.keepIn K (.ref f2) = true)
  (kc_z62:W.keepIn K (.ref C_z62) = true)
  (hd_z62:W.hasDictIn K C_z62 = true)
  (sa_z62:W.findIn K (.ref C_z62) "__setattr__" = some (some (.builtin "object.__setattr__")))
  (ex_z62:Qfb K C_z62 = true)
  (ov_z62:((W.clsIn K C_z62).any fun cd=>Qbz cd.mro) = true)
  (ga_z62:W.findIn K (.ref C_z62) "__getattribute__" = some (some (.builtin "BaseException.__getattribute__")))
  (gx_z62:W.findIn K (.ref C_z62) "__getattr__" = some none)
  (sb_z62:subE K C_z62 C_z70 = true)
  (n_z19:W.findIn K (.ref C_z62) "number" = some none)
  (n_z10:W.findIn K (.ref C_z62) "position" = some none)
  (g_z59:W.nsIn K mainGlobals "TokenFault" = some (some (.ref C_z59)))
  (a3:W.findIn K (.ref C_z59) "__init__" = some (some (.ref f3)))
  (i3:W.isFn K (.ref f3) = true)
  (l3:K.lookup f3 = some ⟨oc3,od3, .func (W.fnOf "__init__" "TokenFault.__init__" (Qa9 s_qw) (Qa8 s_qw) (Qa1 s_qw) .none kV3 dc3 pm3 an3 cd3 ct3),sl3⟩)
  (c3:W.codeIn K cd3 "TokenFault.__init__" = true)
  (k3:W.keepIn K (.ref f3) = true)
  (kc_z59:W.keepIn K (.ref C_z59) = true)
  (hd_z59:W.hasDictIn K C_z59 = true)
  (sa_z59:W.findIn K (.ref C_z59) "__setattr__" = some (some (.builtin "object.__setattr__")))
  (ex_z59:Qfb K C_z59 = true)
  (ov_z59:((W.clsIn K C_z59).any fun cd=>Qbz cd.mro) = true)
  (ga_z59:W.findIn K (.ref C_z59) "__getattribute__" = some (some (.builtin "BaseException.__getattribute__")))
  (gx_z59:W.findIn K (.ref C_z59) "__getattr__" = some none)
  (sb_z59:subE K C_z59 C_z70 = true)
  (n_z14:W.findIn K (.ref C_z59) "number" = some none)
  (n_z4:W.findIn K (.ref C_z59) "position" = some none)
  (g_z50:W.nsIn K mainGlobals "SyntaxFault" = some (some (.ref C_z50)))
  (a4:W.findIn K (.ref C_z50) "__init__" = some (some (.ref f4)))
  (i4:W.isFn K (.ref f4) = true)
  (l4:K.lookup f4 = some ⟨oc4,od4, .func (W.fnOf "__init__" "SyntaxFault.__init__" (Qa9 s_qn) (Qa8 s_qn) (Qa1 s_qn) .none kV4 dc4 pm4 an4 cd4 ct4),sl4⟩)
  (c4:W.codeIn K cd4 "SyntaxFault.__init__" = true)
  (k4:W.keepIn K (.ref f4) = true)
  (kc_z50:W.keepIn K (.ref C_z50) = true)
  (hd_z50:W.hasDictIn K C_z50 = true)
  (sa_z50:W.findIn K (.ref C_z50) "__setattr__" = some (some (.builtin "object.__setattr__")))
  (ex_z50:Qfb K C_z50 = true)
  (ov_z50:((W.clsIn K C_z50).any fun cd=>Qbz cd.mro) = true)
  (ga_z50:W.findIn K (.ref C_z50) "__getattribute__" = some (some (.builtin "BaseException.__getattribute__")))
  (gx_z50:W.findIn K (.ref C_z50) "__getattr__" = some none)
  (sb_z50:subE K C_z50 C_z70 = true)
  (n_z12:W.findIn K (.ref C_z50) "number" = some none)
  (n_z3:W.findIn K (.ref C_z50) "position" = some none)
  (g_z61:W.nsIn K mainGlobals "DeepFault" = some (some (.ref C_z61)))
  (a5:W.findIn K (.ref C_z61) "__init__" = some (some (.ref f5)))
  (i5:W.isFn K (.ref f5) = true)
  (l5:K.lookup f5 = some ⟨oc5,od5, .func (W.fnOf "__init__" "DeepFault.__init__" (Qa9 Qn9) (Qa8 Qn9) (Qa1 Qn9) .none kV5 dc5 pm5 an5 cd5 ct5),sl5⟩)
  (c5:W.codeIn K cd5 "DeepFault.__init__" = true)
  (k5:W.keepIn K (.ref f5) = true)
  (kc_z61:W.keepIn K (.ref C_z61) = true)
  (hd_z61:W.hasDictIn K C_z61 = true)
  (sa_z61:W.findIn K (.ref C_z61) "__setattr__" = some (some (.builtin "object.__setattr__")))
  (ex_z61:Qfb K C_z61 = true)
  (ov_z61:((W.clsIn K C_z61).any fun cd=>Qbz cd.mro) = true)
  (ga_z61:W.findIn K (.ref C_z61) "__getattribute__" = some (some (.builtin "BaseException.__getattribute__")))
  (gx_z61:W.findIn K (.ref C_z61) "__getattr__" = some none)
  (sb_z61:subE K C_z61 C_z70 = true)
  (n_z18:W.findIn K (.ref C_z61) "number" = some none)
  (n_z11:W.findIn K (.ref C_z61) "position" = some none)
  (g_z68:W.nsIn K mainGlobals "NameFault" = some (some (.ref C_z68)))
  (a6:W.findIn K (.ref C_z68) "__init__" = some (some (.ref f6)))
  (i6:W.isFn K (.ref f6) = true)
  (l6:K.lookup f6 = some ⟨oc6,od6, .func (W.fnOf "__init__" "NameFault.__init__" (Qa9 s_qz) (Qa8 s_qz) (Qa1 s_qz) .none kV6 dc6 pm6 an6 cd6 ct6),sl6⟩)
  (c6:W.codeIn K cd6 "NameFault.__init__" = true)
  (k6:W.keepIn K (.ref f6) = true)
  (kc_z68:W.keepIn K (.ref C_z68) = true)
  (hd_z68:W.hasDictIn K C_z68 = true)
  (sa_z68:W.findIn K (.ref C_z68) "__setattr__" = some (some (.builtin "object.__setattr__")))
  (ex_z68:Qfb K C_z68 = true)
  (ov_z68:((W.clsIn K C_z68).any fun cd=>Qbz cd.mro) = true)
  (ga_z68:W.findIn K (.ref C_z68) "__getattribute__" = some (some (.builtin "BaseException.__getattribute__")))
  (gx_z68:W.findIn K (.ref C_z68) "__getattr__" = some none)
  (sb_z68:subE K C_z68 C_z70 = true)
  (n_z17:W.findIn K (.ref C_z68) "number" = some none)
  (n_z8:W.findIn K (.ref C_z68) "position" = some none)
  (g_z55:W.nsIn K mainGlobals "TwiceFault" = some (some (.ref C_z55)))
  (a7:W.findIn K (.ref C_z55) "__init__" = some (some (.ref f7)))
  (i7:W.isFn K (.ref f7) = true)
  (l7:K.lookup f7 = some ⟨oc7,od7, .func (W.fnOf "__init__" "TwiceFault.__init__" (Qa9 s_qy) (Qa8 s_qy) (Qa1 s_qy) .none kV7 dc7 pm7 an7 cd7 ct7),sl7⟩)
  (c7:W.codeIn K cd7 "TwiceFault.__init__" = true)
  (k7:W.keepIn K (.ref f7) = true)
  (kc_z55:W.keepIn K (.ref C_z55) = true)
  (hd_z55:W.hasDictIn K C_z55 = true)
  (sa_z55:W.findIn K (.ref C_z55) "__setattr__" = some (some (.builtin "object.__setattr__")))
  (ex_z55:Qfb K C_z55 = true)
  (ov_z55:((W.clsIn K C_z55).any fun cd=>Qbz cd.mro) = true)
  (ga_z55:W.findIn K (.ref C_z55) "__getattribute__" = some (some (.builtin "BaseException.__getattribute__")))
  (gx_z55:W.findIn K (.ref C_z55) "__getattr__" = some none)
  (sb_z55:subE K C_z55 C_z70 = true)
  (n_z13:W.findIn K (.ref C_z55) "number" = some none)
  (n_z6:W.findIn K (.ref C_z55) "position" = some none)
  (g_z58:W.nsIn K mainGlobals "DepthFault" = some (some (.ref C_z58)))
  (a8:W.findIn K (.ref C_z58) "__init__" = some (some (.ref f8)))
  (i8:W.isFn K (.ref f8) = true)
  (l8:K.lookup f8 = some ⟨oc8,od8, .func (W.fnOf "__init__" "DepthFault.__init__" (Qa9 s_qx) (Qa8 s_qx) (Qa1 s_qx) .none kV8 dc8 pm8 an8 cd8 ct8),sl8⟩)
  (c8:W.codeIn K cd8 "DepthFault.__init__" = true)
  (k8:W.keepIn K (.ref f8) = true)
  (kc_z58:W.keepIn K (.ref C_z58) = true)
  (hd_z58:W.hasDictIn K C_z58 = true)
  (sa_z58:W.findIn K (.ref C_z58) "__setattr__" = some (some (.builtin "object.__setattr__")))
  (ex_z58:Qfb K C_z58 = true)
  (ov_z58:((W.clsIn K C_z58).any fun cd=>Qbz cd.mro) = true)
  (ga_z58:W.findIn K (.ref C_z58) "__getattribute__" = some (some (.builtin "BaseException.__getattribute__")))
  (gx_z58:W.findIn K (.ref C_z58) "__getattr__" = some none)
  (sb_z58:subE K C_z58 C_z70 = true)
  (n_z15:W.findIn K (.ref C_z58) "number" = some none)
  (n_z5:W.findIn K (.ref C_z58) "position" = some none)
  (g_z33:W.nsIn K mainGlobals "LongFormFault" = some (some (.ref C_z33)))
  (a9:W.findIn K (.ref C_z33) "__init__" = some (some (.ref f9)))
  (i9:W.isFn K (.ref f9) = true)
  (l9:K.lookup f9 = some ⟨oc9,od9, .func (W.fnOf "__init__" "LongFormFault.__init__" (Qa9 s_qk) (Qa8 s_qk) (Qa1 s_qk) .none kV9 dc9 pm9 an9 cd9 ct9),sl9⟩)
  (c9:W.codeIn K cd9 "LongFormFault.__init__" = true)
  (k9:W.keepIn K (.ref f9) = true)
  (kc_z33:W.keepIn K (.ref C_z33) = true)
  (hd_z33:W.hasDictIn K C_z33 = true)
  (sa_z33:W.findIn K (.ref C_z33) "__setattr__" = some (some (.builtin "object.__setattr__")))
  (ex_z33:Qfb K C_z33 = true)
  (ov_z33:((W.clsIn K C_z33).any fun cd=>Qbz cd.mro) = true)
  (ga_z33:W.findIn K (.ref C_z33) "__getattribute__" = some (some (.builtin "BaseException.__getattribute__")))
  (gx_z33:W.findIn K (.ref C_z33) "__getattr__" = some none)
  (sb_z33:subE K C_z33 C_z70 = true)
  (n_z2:W.findIn K (.ref C_z33) "number" = some none)
  (n_z0:W.findIn K (.ref C_z33) "position" = some none)
  (g_z21:W.nsIn K mainGlobals "PRIMITIVE_WORDS" = some (some (.ref P_z21)))
  (l_z21:K.lookup P_z21 = some ⟨.type "tuple",od_z21, .seq #[.str ⟨#[65,98,115]⟩ t0_z21, .str ⟨#[65,110,100]⟩ t1_z21, .str ⟨#[67,111,117,110,116]⟩ t2_z21, .str ⟨#[68,105,118]⟩ t3_z21, .str ⟨#[68,114,111,112]⟩ t4_z21, .str ⟨#[70,105,110,100]⟩ t5_z21, .str ⟨#[70,105,114,115,116]⟩ t6_z21, .str ⟨#[70,108,105,112]⟩ t7_z21, .str ⟨#[71,114,97,100,101]⟩ t8_z21, .str ⟨#[73,111,116,97]⟩ t9_z21, .str ⟨#[74,111,105,110]⟩ t10_z21, .str ⟨#[75,101,101,112]⟩ t11_z21, .str ⟨#[77,97,120]⟩ t12_z21, .str ⟨#[77,105,110]⟩ t13_z21, .str ⟨#[77,111,100]⟩ t14_z21, .str ⟨#[78,111,116]⟩ t15_z21, .str ⟨#[79,114]⟩ t16_z21, .str ⟨#[80,105,99,107]⟩ t17_z21, .str ⟨#[82,97,118,101,108]⟩ t18_z21, .str ⟨#[82,101,115,104,97,112,101]⟩ t19_z21, .str ⟨#[82,111,116,97,116,101]⟩ t20_z21, .str ⟨#[83,97,109,101]⟩ t21_z21, .str ⟨#[83,104,97,112,101]⟩ t22_z21, .str ⟨#[83,105,103,110]⟩ t23_z21, .str ⟨#[84,97,107,101]⟩ t24_z21, .str ⟨#[84,117,114,110]⟩ t25_z21, .str ⟨#[87,104,101,114,101]⟩ t26_z21] n_z21,sl_z21⟩)
  (g_z63:W.nsIn K mainGlobals "ARGUMENTS" = some (some (.ref P_z63)))
  (l_z63:K.lookup P_z63 = some ⟨.type "tuple",od_z63, .seq #[.str ⟨#[120]⟩ t0_z63, .str ⟨#[121]⟩ t1_z63] n_z63,sl_z63⟩)
  (g_z76:W.nsIn K mainGlobals "Names" = some (some (.ref C_z76)))
  (a10:W.findIn K (.ref C_z76) "__init__" = some (some (.ref f10)))
  (i10:W.isFn K (.ref f10) = true)
  (l10:K.lookup f10 = some ⟨oc10,od10, .func (W.fnOf "__init__" "Names.__init__" (Qa9 Qms) (Qa8 Qms) (Qa1 Qms) .none kV10 dc10 pm10 an10 cd10 ct10),sl10⟩)
  (c10:W.codeIn K cd10 "Names.__init__" = true)
  (k10:W.keepIn K (.ref f10) = true)
  (a11:W.findIn K (.ref C_z76) "give" = some (some (.ref f11)))
  (i11:W.isFn K (.ref f11) = true)
  (l11:K.lookup f11 = some ⟨oc11,od11, .func (W.fnOf "give" "Names.give" (Qa9 Qmp) (Qa8 Qmp) (Qa1 Qmp) .none kV11 dc11 pm11 an11 cd11 ct11),sl11⟩)
  (c11:W.codeIn K cd11 "Names.give" = true)
  (k11:W.keepIn K (.ref f11) = true)
  (a12:W.findIn K (.ref C_z76) "refuse_twice" = some (some (.ref f12)))
  (i12:W.isFn K (.ref f12) = true)
  (l12:K.lookup f12 = some ⟨oc12,od12, .func (W.fnOf "refuse_twice" "Names.refuse_twice" (Qa9 s_qh) (Qa8 s_qh) (Qa1 s_qh) .none kV12 dc12 pm12 an12 cd12 ct12),sl12⟩)
  (c12:W.codeIn K cd12 "Names.refuse_twice" = true)
  (k12:W.keepIn K (.ref f12) = true)
  (a13:W.findIn K (.ref C_z76) "mention_all" = some (some (.ref f13)))
  (i13:W.isFn K (.ref f13) = true)
  (l13:K.lookup f13 = some ⟨oc13,od13, .func (W.fnOf "mention_all" "Names.mention_all" (Qa9 s_ql) (Qa8 s_ql) (Qa1 s_ql) .none kV13 dc13 pm13 an13 cd13 ct13),sl13⟩)
  (c13:W.codeIn K cd13 "Names.mention_all" = true)
  (k13:W.keepIn K (.ref f13) = true)
  (a14:W.findIn K (.ref C_z76) "mention_name" = some (some (.ref f14)))
  (i14:W.isFn K (.ref f14) = true)
  (l14:K.lookup f14 = some ⟨oc14,od14, .func (W.fnOf "mention_name" "Names.mention_name" (Qa9 s_qi) (Qa8 s_qi) (Qa1 s_qi) .none kV14 dc14 pm14 an14 cd14 ct14),sl14⟩)
  (c14:W.codeIn K cd14 "Names.mention_name" = true)
  (k14:W.keepIn K (.ref f14) = true)
  (a15:W.findIn K (.ref C_z76) "mention_word" = some (some (.ref f15)))
  (i15:W.isFn K (.ref f15) = true)
  (l15:K.lookup f15 = some ⟨oc15,od15, .func (W.fnOf "mention_word" "Names.mention_word" (Qa9 s_qj) (Qa8 s_qj) (Qa1 s_qj) .none kV15 dc15 pm15 an15 cd15 ct15),sl15⟩)
  (c15:W.codeIn K cd15 "Names.mention_word" = true)
  (k15:W.keepIn K (.ref f15) = true)
  (kc_z76:W.keepIn K (.ref C_z76) = true)
  (hd_z76:W.hasDictIn K C_z76 = true)
  (sa_z76:W.findIn K (.ref C_z76) "__setattr__" = some (some (.builtin "object.__setattr__")))
  (pg_z76:W.plainGet K C_z76 Str.empty = true)
  (po_z76:W.plainOver K C_z76 = true)
  (mk_z76:W.makesIn K C_z76 = true)
  (n_z52:W.findIn K (.ref C_z76) "given" = some none)
  (n_z43:W.findIn K (.ref C_z76) "inputs" = some none)
  (a16:W.nsIn K mainGlobals "inputs_of" = some (some (.ref f16)))
  (l16:K.lookup f16 = some ⟨oc16,od16, .func (W.fnOf "inputs_of" "inputs_of" (Qa9 Qml) (Qa8 Qml) (Qa1 Qml) .none kV16 dc16 pm16 an16 cd16 ct16),sl16⟩)
  (c16:W.codeIn K cd16 "inputs_of" = true)
  (k16:W.keepIn K (.ref f16) = true)
  (g_z54:W.nsIn K mainGlobals "FIRST_SIGN" = some (some (.int (40) t_z54)))
  (g_z75:W.nsIn K mainGlobals "SIGNS" = some (some (.str ⟨#[40,41,42,43,44,45,46,47,48,49,50,51,52,53,54,55,56,57,58,59,60,61,62,63,64,65,66,67,68,69,70,71,72,73,74,75,76,77,78,79,80,81,82,83,84,85,86,87,88,89,90,91,92,93,94,95,96,97,98,99,100,101,102,103,104,105,106,107,108,109,110,111,112,113,114,115,116,117,118,119,120,121,122,123,124,125]⟩ t_z75)))
  (g_z1:W.nsIn K mainGlobals "SIGNS_BETWEEN_TOKENS" = some (some (.ref P_z1)))
  (l_z1:K.lookup P_z1 = some ⟨.type "dict",none, .dict #[⟨9, .int 9 t0_z1, .str ⟨#[32]⟩ u0_z1⟩,⟨10, .int 10 t1_z1, .str ⟨#[10]⟩ u1_z1⟩,⟨13, .int 13 t2_z1, .str ⟨#[32]⟩ u2_z1⟩,⟨32, .int 32 t3_z1, .str ⟨#[32]⟩ u3_z1⟩,⟨35, .int 35 t4_z1, .str ⟨#[35]⟩ u4_z1⟩] n_z1,#[]⟩)
  (y_z1:(P_z1 == sysModules) = false)
  (g_z69:W.nsIn K mainGlobals "NO_SIGN" = some (some (.str ⟨#[63]⟩ t_z69)))
  (g_z72:W.nsIn K mainGlobals "BLANKS" = some (some (.ref P_z72)))
  (l_z72:K.lookup P_z72 = some ⟨.type "tuple",od_z72, .seq #[.str ⟨#[32]⟩ t0_z72, .str ⟨#[10]⟩ t1_z72] n_z72,sl_z72⟩)
  (g_z38:W.nsIn K mainGlobals "SIGNS_OF_TWO" = some (some (.ref P_z38)))
  (l_z38:K.lookup P_z38 = some ⟨.type "tuple",od_z38, .seq #[.str ⟨#[58,61]⟩ t0_z38, .str ⟨#[60,61]⟩ t1_z38, .str ⟨#[47,61]⟩ t2_z38] n_z38,sl_z38⟩)
  (g_z45:W.nsIn K mainGlobals "SIGNS_OF_ONE" = some (some (.ref P_z45)))
  (l_z45:K.lookup P_z45 = some ⟨.type "tuple",od_z45, .seq #[.str ⟨#[40]⟩ t0_z45, .str ⟨#[41]⟩ t1_z45, .str ⟨#[123]⟩ t2_z45, .str ⟨#[125]⟩ t3_z45, .str ⟨#[59]⟩ t4_z45, .str ⟨#[43]⟩ t5_z45, .str ⟨#[45]⟩ t6_z45, .str ⟨#[42]⟩ t7_z45, .str ⟨#[60]⟩ t8_z45, .str ⟨#[61]⟩ t9_z45] n_z45,sl_z45⟩)
  (g_z22:W.nsIn K mainGlobals "PRIMITIVE_SIGNS" = some (some (.ref P_z22)))
  (l_z22:K.lookup P_z22 = some ⟨.type "tuple",od_z22, .seq #[.str ⟨#[43]⟩ t0_z22, .str ⟨#[45]⟩ t1_z22, .str ⟨#[42]⟩ t2_z22, .str ⟨#[60]⟩ t3_z22, .str ⟨#[60,61]⟩ t4_z22, .str ⟨#[61]⟩ t5_z22, .str ⟨#[47,61]⟩ t6_z22] n_z22,sl_z22⟩)
  (g_z66:W.nsIn K mainGlobals "MODIFIERS" = some (some (.ref P_z66)))
  (l_z66:K.lookup P_z66 = some ⟨.type "tuple",od_z66, .seq #[.str ⟨#[58,102,111,108,100]⟩ t0_z66, .str ⟨#[58,115,99,97,110]⟩ t1_z66, .str ⟨#[58,116,97,98,108,101]⟩ t2_z66, .str ⟨#[58,115,119,97,112]⟩ t3_z66, .str ⟨#[58,97,116]⟩ t4_z66] n_z66,sl_z66⟩)
  (g_z47:W.nsIn K mainGlobals "MOST_DIGITS" = some (some (.int (19) t_z47)))
  (g_z26:W.nsIn K mainGlobals "LARGEST_NUMBER" = some (some (.int (1000000000000000000) t_z26)))
  (g_z46:W.nsIn K mainGlobals "LONGEST_NAME" = some (some (.int (16) t_z46)))
  (g_z74:W.nsIn K mainGlobals "Token" = some (some (.ref C_z74)))
  (a17:W.findIn K (.ref C_z74) "__init__" = some (some (.ref f17)))
  (i17:W.isFn K (.ref f17) = true)
  (l17:K.lookup f17 = some ⟨oc17,od17, .func (W.fnOf "__init__" "Token.__init__" (Qa9 Qmt) (Qa8 Qmt) (Qa1 Qmt) .none kV17 dc17 pm17 an17 cd17 ct17),sl17⟩)
  (c17:W.codeIn K cd17 "Token.__init__" = true)
  (k17:W.keepIn K (.ref f17) = true)
  (kc_z74:W.keepIn K (.ref C_z74) = true)
  (hd_z74:W.hasDictIn K C_z74 = true)
  (sa_z74:W.findIn K (.ref C_z74) "__setattr__" = some (some (.builtin "object.__setattr__")))
  (pg_z74:W.plainGet K C_z74 Str.empty = true)
  (po_z74:W.plainOver K C_z74 = true)
  (mk_z74:W.makesIn K C_z74 = true)
  (n_z56:W.findIn K (.ref C_z74) "kind" = some none)
  (n_z30:W.findIn K (.ref C_z74) "position" = some none)
  (n_z24:W.findIn K (.ref C_z74) "spelling" = some none)
  (a18:W.nsIn K mainGlobals "cut" = some (some (.ref f18)))
  (l18:K.lookup f18 = some ⟨oc18,od18, .func (W.fnOf "cut" "cut" (Qa9 Qna) (Qa8 Qna) (Qa1 Qna) .none kV18 dc18 pm18 an18 cd18 ct18),sl18⟩)
  (c18:W.codeIn K cd18 "cut" = true)
  (k18:W.keepIn K (.ref f18) = true)
  (a19:W.nsIn K mainGlobals "sign_of" = some (some (.ref f19)))
  (l19:K.lookup f19 = some ⟨oc19,od19, .func (W.fnOf "sign_of" "sign_of" (Qa9 Qme) (Qa8 Qme) (Qa1 Qme) .none kV19 dc19 pm19 an19 cd19 ct19),sl19⟩)
  (c19:W.codeIn K cd19 "sign_of" = true)
  (k19:W.keepIn K (.ref f19) = true)
  (a20:W.nsIn K mainGlobals "behind_comment" = some (some (.ref f20)))
  (l20:K.lookup f20 = some ⟨oc20,od20, .func (W.fnOf "behind_comment" "behind_comment" (Qa9 Qn5) (Qa8 Qn5) (Qa1 Qn5) .none kV20 dc20 pm20 an20 cd20 ct20),sl20⟩)
  (c20:W.codeIn K cd20 "behind_comment" = true)
  (k20:W.keepIn K (.ref f20) = true)
  (a21:W.nsIn K mainGlobals "token_at" = some (some (.ref f21)))
  (l21:K.lookup f21 = some ⟨oc21,od21, .func (W.fnOf "token_at" "token_at" (Qa9 Qmh) (Qa8 Qmh) (Qa1 Qmh) .none kV21 dc21 pm21 an21 cd21 ct21),sl21⟩)
  (c21:W.codeIn K cd21 "token_at" = true)
  (k21:W.keepIn K (.ref f21) = true)
  (a22:W.nsIn K mainGlobals "number_at" = some (some (.ref f22)))
  (l22:K.lookup f22 = some ⟨oc22,od22, .func (W.fnOf "number_at" "number_at" (Qa9 Qmm) (Qa8 Qmm) (Qa1 Qmm) .none kV22 dc22 pm22 an22 cd22 ct22),sl22⟩)
  (c22:W.codeIn K cd22 "number_at" = true)
  (k22:W.keepIn K (.ref f22) = true)
  (a23:W.nsIn K mainGlobals "name_at" = some (some (.ref f23)))
  (l23:K.lookup f23 = some ⟨oc23,od23, .func (W.fnOf "name_at" "name_at" (Qa9 Qmc) (Qa8 Qmc) (Qa1 Qmc) .none kV23 dc23 pm23 an23 cd23 ct23),sl23⟩)
  (c23:W.codeIn K cd23 "name_at" = true)
  (k23:W.keepIn K (.ref f23) = true)
  (a24:W.nsIn K mainGlobals "modifier_at" = some (some (.ref f24)))
  (l24:K.lookup f24 = some ⟨oc24,od24, .func (W.fnOf "modifier_at" "modifier_at" (Qa9 Qmx) (Qa8 Qmx) (Qa1 Qmx) .none kV24 dc24 pm24 an24 cd24 ct24),sl24⟩)
  (c24:W.codeIn K cd24 "modifier_at" = true)
  (k24:W.keepIn K (.ref f24) = true)
  (a25:W.nsIn K mainGlobals "run_stop" = some (some (.ref f25)))
  (l25:K.lookup f25 = some ⟨oc25,od25, .func (W.fnOf "run_stop" "run_stop" (Qa9 Qmg) (Qa8 Qmg) (Qa1 Qmg) .none kV25 dc25 pm25 an25 cd25 ct25),sl25⟩)
  (c25:W.codeIn K cd25 "run_stop" = true)
  (k25:W.keepIn K (.ref f25) = true)
  (a26:W.nsIn K mainGlobals "sign_token" = some (some (.ref f26)))
  (l26:K.lookup f26 = some ⟨oc26,od26, .func (W.fnOf "sign_token" "sign_token" (Qa9 Qmr) (Qa8 Qmr) (Qa1 Qmr) .none kV26 dc26 pm26 an26 cd26 ct26),sl26⟩)
  (c26:W.codeIn K cd26 "sign_token" = true)
  (k26:W.keepIn K (.ref f26) = true)
  (a27:W.nsIn K mainGlobals "number_of" = some (some (.ref f27)))
  (l27:K.lookup f27 = some ⟨oc27,od27, .func (W.fnOf "number_of" "number_of" (Qa9 Qmi) (Qa8 Qmi) (Qa1 Qmi) .none kV27 dc27 pm27 an27 cd27 ct27),sl27⟩)
  (c27:W.codeIn K cd27 "number_of" = true)
  (k27:W.keepIn K (.ref f27) = true)
  (g_z35:W.nsIn K mainGlobals "APPLIED_KINDS" = some (some (.ref P_z35)))
  (l_z35:K.lookup P_z35 = some ⟨.type "tuple",od_z35, .seq #[.str ⟨#[111,110,101]⟩ t0_z35, .str ⟨#[116,119,111]⟩ t1_z35] n_z35,sl_z35⟩)
  (g_z77:W.nsIn K mainGlobals "Node" = some (some (.ref C_z77)))
  (a28:W.findIn K (.ref C_z77) "__init__" = some (some (.ref f28)))
  (i28:W.isFn K (.ref f28) = true)
  (l28:K.lookup f28 = some ⟨oc28,od28, .func (W.fnOf "__init__" "Node.__init__" (Qa9 Qmn) (Qa8 Qmn) (Qa1 Qmn) .none kV28 dc28 pm28 an28 cd28 ct28),sl28⟩)
  (c28:W.codeIn K cd28 "Node.__init__" = true)
  (k28:W.keepIn K (.ref f28) = true)
  (kc_z77:W.keepIn K (.ref C_z77) = true)
  (hd_z77:W.hasDictIn K C_z77 = true)
  (sa_z77:W.findIn K (.ref C_z77) "__setattr__" = some (some (.builtin "object.__setattr__")))
  (pg_z77:W.plainGet K C_z77 Str.empty = true)
  (po_z77:W.plainOver K C_z77 = true)
  (mk_z77:W.makesIn K C_z77 = true)
  (n_z67:W.findIn K (.ref C_z77) "kind" = some none)
  (n_z64:W.findIn K (.ref C_z77) "word" = some none)
  (n_z41:W.findIn K (.ref C_z77) "numbers" = some none)
  (n_z53:W.findIn K (.ref C_z77) "parts" = some none)
  (n_z57:W.findIn K (.ref C_z77) "depth" = some none)
  (n_z51:W.findIn K (.ref C_z77) "levels" = some none)
  (n_z60:W.findIn K (.ref C_z77) "nodes" = some none)
  (a29:W.nsIn K mainGlobals "levels_of" = some (some (.ref f29)))
  (l29:K.lookup f29 = some ⟨oc29,od29, .func (W.fnOf "levels_of" "levels_of" (Qa9 Qmk) (Qa8 Qmk) (Qa1 Qmk) .none kV29 dc29 pm29 an29 cd29 ct29),sl29⟩)
  (c29:W.codeIn K cd29 "levels_of" = true)
  (k29:W.keepIn K (.ref f29) = true)
  (a30:W.nsIn K mainGlobals "is_applied" = some (some (.ref f30)))
  (l30:K.lookup f30 = some ⟨oc30,od30, .func (W.fnOf "is_applied" "is_applied" (Qa9 Qmq) (Qa8 Qmq) (Qa1 Qmq) .none kV30 dc30 pm30 an30 cd30 ct30),sl30⟩)
  (c30:W.codeIn K cd30 "is_applied" = true)
  (k30:W.keepIn K (.ref f30) = true)
  (g_z65:W.nsIn K mainGlobals "Statement" = some (some (.ref C_z65)))
  (a31:W.findIn K (.ref C_z65) "__init__" = some (some (.ref f31)))
  (i31:W.isFn K (.ref f31) = true)
  (l31:K.lookup f31 = some ⟨oc31,od31, .func (W.fnOf "__init__" "Statement.__init__" (Qa9 Qn8) (Qa8 Qn8) (Qa1 Qn8) .none kV31 dc31 pm31 an31 cd31 ct31),sl31⟩)
  (c31:W.codeIn K cd31 "Statement.__init__" = true)
  (k31:W.keepIn K (.ref f31) = true)
  (kc_z65:W.keepIn K (.ref C_z65) = true)
  (hd_z65:W.hasDictIn K C_z65 = true)
  (sa_z65:W.findIn K (.ref C_z65) "__setattr__" = some (some (.builtin "object.__setattr__")))
  (pg_z65:W.plainGet K C_z65 Str.empty = true)
  (po_z65:W.plainOver K C_z65 = true)
  (mk_z65:W.makesIn K C_z65 = true)
  (n_z27:W.findIn K (.ref C_z65) "name" = some none)
  (n_z28:W.findIn K (.ref C_z65) "node" = some none)
  (g_z71:W.nsIn K mainGlobals "Program" = some (some (.ref C_z71)))
  (a32:W.findIn K (.ref C_z71) "__init__" = some (some (.ref f32)))
  (i32:W.isFn K (.ref f32) = true)
  (l32:K.lookup f32 = some ⟨oc32,od32, .func (W.fnOf "__init__" "Program.__init__" (Qa9 Qmz) (Qa8 Qmz) (Qa1 Qmz) .none kV32 dc32 pm32 an32 cd32 ct32),sl32⟩)
  (c32:W.codeIn K cd32 "Program.__init__" = true)
  (k32:W.keepIn K (.ref f32) = true)
  (kc_z71:W.keepIn K (.ref C_z71) = true)
  (hd_z71:W.hasDictIn K C_z71 = true)
  (sa_z71:W.findIn K (.ref C_z71) "__setattr__" = some (some (.builtin "object.__setattr__")))
  (pg_z71:W.plainGet K C_z71 Str.empty = true)
  (po_z71:W.plainOver K C_z71 = true)
  (mk_z71:W.makesIn K C_z71 = true)
  (n_z7:W.findIn K (.ref C_z71) "statements" = some none)
  (n_z9:W.findIn K (.ref C_z71) "expression" = some none)
  (n_z36:W.findIn K (.ref C_z71) "atoms" = some none)
  (n_z31:W.findIn K (.ref C_z71) "inputs" = some none)
  (n_z34:W.findIn K (.ref C_z71) "depth" = some none)
  (a33:W.nsIn K mainGlobals "numbers_node" = some (some (.ref f33)))
  (l33:K.lookup f33 = some ⟨oc33,od33, .func (W.fnOf "numbers_node" "numbers_node" (Qa9 Qn2) (Qa8 Qn2) (Qa1 Qn2) .none kV33 dc33 pm33 an33 cd33 ct33),sl33⟩)
  (c33:W.codeIn K cd33 "numbers_node" = true)
  (k33:W.keepIn K (.ref f33) = true)
  (a34:W.nsIn K mainGlobals "word_node" = some (some (.ref f34)))
  (l34:K.lookup f34 = some ⟨oc34,od34, .func (W.fnOf "word_node" "word_node" (Qa9 Qmo) (Qa8 Qmo) (Qa1 Qmo) .none kV34 dc34 pm34 an34 cd34 ct34),sl34⟩)
  (c34:W.codeIn K cd34 "word_node" = true)
  (k34:W.keepIn K (.ref f34) = true)
  (a35:W.nsIn K mainGlobals "body_node" = some (some (.ref f35)))
  (l35:K.lookup f35 = some ⟨oc35,od35, .func (W.fnOf "body_node" "body_node" (Qa9 Qmj) (Qa8 Qmj) (Qa1 Qmj) .none kV35 dc35 pm35 an35 cd35 ct35),sl35⟩)
  (c35:W.codeIn K cd35 "body_node" = true)
  (k35:W.keepIn K (.ref f35) = true)
  (a36:W.nsIn K mainGlobals "modified_node" = some (some (.ref f36)))
  (l36:K.lookup f36 = some ⟨oc36,od36, .func (W.fnOf "modified_node" "modified_node" (Qa9 Qn4) (Qa8 Qn4) (Qa1 Qn4) .none kV36 dc36 pm36 an36 cd36 ct36),sl36⟩)
  (c36:W.codeIn K cd36 "modified_node" = true)
  (k36:W.keepIn K (.ref f36) = true)
  (a37:W.nsIn K mainGlobals "applied_node" = some (some (.ref f37)))
  (l37:K.lookup f37 = some ⟨oc37,od37, .func (W.fnOf "applied_node" "applied_node" (Qa9 Qn3) (Qa8 Qn3) (Qa1 Qn3) .none kV37 dc37 pm37 an37 cd37 ct37),sl37⟩)
  (c37:W.codeIn K cd37 "applied_node" = true)
  (k37:W.keepIn K (.ref f37) = true)
  (g_z48:W.nsIn K mainGlobals "MOST_LEVELS" = some (some (.int (30) t_z48)))
  (g_z42:W.nsIn K mainGlobals "LARGEST_RANK" = some (some (.int (5) t_z42)))
  (g_z49:W.nsIn K mainGlobals "GIVEN_KINDS" = some (some (.ref P_z49)))
  (l_z49:K.lookup P_z49 = some ⟨.type "tuple",od_z49, .seq #[.str ⟨#[110,97,109,101]⟩ t0_z49, .str ⟨#[119,111,114,100]⟩ t1_z49] n_z49,sl_z49⟩)
  (g_z29:W.nsIn K mainGlobals "OPERAND_BEGINS" = some (some (.ref P_z29)))
  (l_z29:K.lookup P_z29 = some ⟨.type "tuple",od_z29, .seq #[.str ⟨#[110,117,109,98,101,114]⟩ t0_z29, .str ⟨#[110,97,109,101]⟩ t1_z29, .str ⟨#[40]⟩ t2_z29] n_z29,sl_z29⟩)
  (g_z20:W.nsIn K mainGlobals "FUNCTION_BEGINS" = some (some (.ref P_z20)))
  (l_z20:K.lookup P_z20 = some ⟨.type "tuple",od_z20, .seq #[.str ⟨#[112,114,105,109,105,116,105,118,101]⟩ t0_z20, .str ⟨#[119,111,114,100]⟩ t1_z20, .str ⟨#[123]⟩ t2_z20] n_z20,sl_z20⟩)
  (g_z73:W.nsIn K mainGlobals "Reader" = some (some (.ref C_z73)))
  (a38:W.findIn K (.ref C_z73) "__init__" = some (some (.ref f38)))
  (i38:W.isFn K (.ref f38) = true)
  (l38:K.lookup f38 = some ⟨oc38,od38, .func (W.fnOf "__init__" "Reader.__init__" (Qa9 Qmw) (Qa8 Qmw) (Qa1 Qmw) .none kV38 dc38 pm38 an38 cd38 ct38),sl38⟩)
  (c38:W.codeIn K cd38 "Reader.__init__" = true)
  (k38:W.keepIn K (.ref f38) = true)
  (a39:W.findIn K (.ref C_z73) "kind_here" = some (some (.ref f39)))
  (i39:W.isFn K (.ref f39) = true)
  (l39:K.lookup f39 = some ⟨oc39,od39, .func (W.fnOf "kind_here" "Reader.kind_here" (Qa9 s_qt) (Qa8 s_qt) (Qa1 s_qt) .none kV39 dc39 pm39 an39 cd39 ct39),sl39⟩)
  (c39:W.codeIn K cd39 "Reader.kind_here" = true)
  (k39:W.keepIn K (.ref f39) = true)
  (a40:W.findIn K (.ref C_z73) "take" = some (some (.ref f40)))
  (i40:W.isFn K (.ref f40) = true)
  (l40:K.lookup f40 = some ⟨oc40,od40, .func (W.fnOf "take" "Reader.take" (Qa9 Qmy) (Qa8 Qmy) (Qa1 Qmy) .none kV40 dc40 pm40 an40 cd40 ct40),sl40⟩)
  (c40:W.codeIn K cd40 "Reader.take" = true)
  (k40:W.keepIn K (.ref f40) = true)
  (a41:W.findIn K (.ref C_z73) "take_kind" = some (some (.ref f41)))
  (i41:W.isFn K (.ref f41) = true)
  (l41:K.lookup f41 = some ⟨oc41,od41, .func (W.fnOf "take_kind" "Reader.take_kind" (Qa9 s_qr) (Qa8 s_qr) (Qa1 s_qr) .none kV41 dc41 pm41 an41 cd41 ct41),sl41⟩)
  (c41:W.codeIn K cd41 "Reader.take_kind" = true)
  (k41:W.keepIn K (.ref f41) = true)
  (a42:W.findIn K (.ref C_z73) "read_statements" = some (some (.ref f42)))
  (i42:W.isFn K (.ref f42) = true)
  (l42:K.lookup f42 = some ⟨oc42,od42, .func (W.fnOf "read_statements" "Reader.read_statements" (Qa9 s_qa) (Qa8 s_qa) (Qa1 s_qa) .none kV42 dc42 pm42 an42 cd42 ct42),sl42⟩)
  (c42:W.codeIn K cd42 "Reader.read_statements" = true)
  (k42:W.keepIn K (.ref f42) = true)
  (a43:W.findIn K (.ref C_z73) "read_last" = some (some (.ref f43)))
  (i43:W.isFn K (.ref f43) = true)
  (l43:K.lookup f43 = some ⟨oc43,od43, .func (W.fnOf "read_last" "Reader.read_last" (Qa9 s_qp) (Qa8 s_qp) (Qa1 s_qp) .none kV43 dc43 pm43 an43 cd43 ct43),sl43⟩)
  (c43:W.codeIn K cd43 "Reader.read_last" = true)
  (k43:W.keepIn K (.ref f43) = true)
  (a44:W.findIn K (.ref C_z73) "read_statement" = some (some (.ref f44)))
  (i44:W.isFn K (.ref f44) = true)
  (l44:K.lookup f44 = some ⟨oc44,od44, .func (W.fnOf "read_statement" "Reader.read_statement" (Qa9 s_qc) (Qa8 s_qc) (Qa1 s_qc) .none kV44 dc44 pm44 an44 cd44 ct44),sl44⟩)
  (c44:W.codeIn K cd44 "Reader.read_statement" = true)
  (k44:W.keepIn K (.ref f44) = true)
  (a45:W.findIn K (.ref C_z73) "read_expression" = some (some (.ref f45)))
  (i45:W.isFn K (.ref f45) = true)
  (l45:K.lookup f45 = some ⟨oc45,od45, .func (W.fnOf "read_expression" "Reader.read_expression" (Qa9 s_qb) (Qa8 s_qb) (Qa1 s_qb) .none kV45 dc45 pm45 an45 cd45 ct45),sl45⟩)
  (c45:W.codeIn K cd45 "Reader.read_expression" = true)
  (k45:W.keepIn K (.ref f45) = true)
  (a46:W.findIn K (.ref C_z73) "read_operand" = some (some (.ref f46)))
  (i46:W.isFn K (.ref f46) = true)
  (l46:K.lookup f46 = some ⟨oc46,od46, .func (W.fnOf "read_operand" "Reader.read_operand" (Qa9 s_qe) (Qa8 s_qe) (Qa1 s_qe) .none kV46 dc46 pm46 an46 cd46 ct46),sl46⟩)
  (c46:W.codeIn K cd46 "Reader.read_operand" = true)
  (k46:W.keepIn K (.ref f46) = true)
  (a47:W.findIn K (.ref C_z73) "read_numbers" = some (some (.ref f47)))
  (i47:W.isFn K (.ref f47) = true)
  (l47:K.lookup f47 = some ⟨oc47,od47, .func (W.fnOf "read_numbers" "Reader.read_numbers" (Qa9 s_qf) (Qa8 s_qf) (Qa1 s_qf) .none kV47 dc47 pm47 an47 cd47 ct47),sl47⟩)
  (c47:W.codeIn K cd47 "Reader.read_numbers" = true)
  (k47:W.keepIn K (.ref f47) = true)
  (a48:W.findIn K (.ref C_z73) "read_function" = some (some (.ref f48)))
  (i48:W.isFn K (.ref f48) = true)
  (l48:K.lookup f48 = some ⟨oc48,od48, .func (W.fnOf "read_function" "Reader.read_function" (Qa9 s_qd) (Qa8 s_qd) (Qa1 s_qd) .none kV48 dc48 pm48 an48 cd48 ct48),sl48⟩)
  (c48:W.codeIn K cd48 "Reader.read_function" = true)
  (k48:W.keepIn K (.ref f48) = true)
  (a49:W.findIn K (.ref C_z73) "read_atom" = some (some (.ref f49)))
  (i49:W.isFn K (.ref f49) = true)
  (l49:K.lookup f49 = some ⟨oc49,od49, .func (W.fnOf "read_atom" "Reader.read_atom" (Qa9 s_qq) (Qa8 s_qq) (Qa1 s_qq) .none kV49 dc49 pm49 an49 cd49 ct49),sl49⟩)
  (c49:W.codeIn K cd49 "Reader.read_atom" = true)
  (k49:W.keepIn K (.ref f49) = true)
  (a50:W.findIn K (.ref C_z73) "read_rank" = some (some (.ref f50)))
  (i50:W.isFn K (.ref f50) = true)
  (l50:K.lookup f50 = some ⟨oc50,od50, .func (W.fnOf "read_rank" "Reader.read_rank" (Qa9 s_qs) (Qa8 s_qs) (Qa1 s_qs) .none kV50 dc50 pm50 an50 cd50 ct50),sl50⟩)
  (c50:W.codeIn K cd50 "Reader.read_rank" = true)
  (k50:W.keepIn K (.ref f50) = true)
  (kc_z73:W.keepIn K (.ref C_z73) = true)
  (hd_z73:W.hasDictIn K C_z73 = true)
  (sa_z73:W.findIn K (.ref C_z73) "__setattr__" = some (some (.builtin "object.__setattr__")))
  (pg_z73:W.plainGet K C_z73 Str.empty = true)
  (po_z73:W.plainOver K C_z73 = true)
  (mk_z73:W.makesIn K C_z73 = true)
  (n_z32:W.findIn K (.ref C_z73) "tokens" = some none)
  (n_z40:W.findIn K (.ref C_z73) "place" = some none)
  (n_z44:W.findIn K (.ref C_z73) "atoms" = some none)
  (a51:W.nsIn K mainGlobals "applied_from_right" = some (some (.ref f51)))
  (l51:K.lookup f51 = some ⟨oc51,od51, .func (W.fnOf "applied_from_right" "applied_from_right" (Qa9 s_qg) (Qa8 s_qg) (Qa1 s_qg) .none kV51 dc51 pm51 an51 cd51 ct51),sl51⟩)
  (c51:W.codeIn K cd51 "applied_from_right" = true)
  (k51:W.keepIn K (.ref f51) = true)
  (g_z39:W.nsIn K mainGlobals "LONGEST_FORM" = some (some (.int (2048) t_z39)))
  (a52:W.nsIn K mainGlobals "plain_bytes" = some (some (.ref f52)))
  (l52:K.lookup f52 = some ⟨oc52,od52, .func (W.fnOf "plain_bytes" "plain_bytes" (Qa9 Qmv) (Qa8 Qmv) (Qa1 Qmv) .none kV52 dc52 pm52 an52 cd52 ct52),sl52⟩)
  (c52:W.codeIn K cd52 "plain_bytes" = true)
  (k52:W.keepIn K (.ref f52) = true)
  (a53:W.nsIn K mainGlobals "form_bytes" = some (some (.ref f53)))
  (l53:K.lookup f53 = some ⟨oc53,od53, .func (W.fnOf "form_bytes" "form_bytes" (Qa9 Qmu) (Qa8 Qmu) (Qa1 Qmu) .none kV53 dc53 pm53 an53 cd53 ct53),sl53⟩)
  (c53:W.codeIn K cd53 "form_bytes" = true)
  (k53:W.keepIn K (.ref f53) = true)
  (a54:W.nsIn K mainGlobals "printed_program" = some (some (.ref f54)))
  (l54:K.lookup f54 = some ⟨oc54,od54, .func (W.fnOf "printed_program" "printed_program" (Qa9 s_qu) (Qa8 s_qu) (Qa1 s_qu) .none kV54 dc54 pm54 an54 cd54 ct54),sl54⟩)
  (c54:W.codeIn K cd54 "printed_program" = true)
  (k54:W.keepIn K (.ref f54) = true)
  (a55:W.nsIn K mainGlobals "printed_statement" = some (some (.ref f55)))
  (l55:K.lookup f55 = some ⟨oc55,od55, .func (W.fnOf "printed_statement" "printed_statement" (Qa9 s_qm) (Qa8 s_qm) (Qa1 s_qm) .none kV55 dc55 pm55 an55 cd55 ct55),sl55⟩)
  (c55:W.codeIn K cd55 "printed_statement" = true)
  (k55:W.keepIn K (.ref f55) = true)
  (a56:W.nsIn K mainGlobals "printed" = some (some (.ref f56)))
  (l56:K.lookup f56 = some ⟨oc56,od56, .func (W.fnOf "printed" "printed" (Qa9 Qmd) (Qa8 Qmd) (Qa1 Qmd) .none kV56 dc56 pm56 an56 cd56 ct56),sl56⟩)
  (c56:W.codeIn K cd56 "printed" = true)
  (k56:W.keepIn K (.ref f56) = true)
  (a57:W.nsIn K mainGlobals "printed_left" = some (some (.ref f57)))
  (l57:K.lookup f57 = some ⟨oc57,od57, .func (W.fnOf "printed_left" "printed_left" (Qa9 Qn1) (Qa8 Qn1) (Qa1 Qn1) .none kV57 dc57 pm57 an57 cd57 ct57),sl57⟩)
  (c57:W.codeIn K cd57 "printed_left" = true)
  (k57:W.keepIn K (.ref f57) = true)
  (a58:W.nsIn K mainGlobals "printed_modified" = some (some (.ref f58)))
  (l58:K.lookup f58 = some ⟨oc58,od58, .func (W.fnOf "printed_modified" "printed_modified" (Qa9 s_qo) (Qa8 s_qo) (Qa1 s_qo) .none kV58 dc58 pm58 an58 cd58 ct58),sl58⟩)
  (c58:W.codeIn K cd58 "printed_modified" = true)
  (k58:W.keepIn K (.ref f58) = true)
  (a59:W.nsIn K mainGlobals "printed_numbers" = some (some (.ref f59)))
  (l59:K.lookup f59 = some ⟨oc59,od59, .func (W.fnOf "printed_numbers" "printed_numbers" (Qa9 s_qv) (Qa8 s_qv) (Qa1 s_qv) .none kV59 dc59 pm59 an59 cd59 ct59),sl59⟩)
  (c59:W.codeIn K cd59 "printed_numbers" = true)
  (k59:W.keepIn K (.ref f59) = true)
  (a60:W.nsIn K mainGlobals "printed_number" = some (some (.ref f60)))
  (l60:K.lookup f60 = some ⟨oc60,od60, .func (W.fnOf "printed_number" "printed_number" (Qa9 Qn7) (Qa8 Qn7) (Qa1 Qn7) .none kV60 dc60 pm60 an60 cd60 ct60),sl60⟩)
  (c60:W.codeIn K cd60 "printed_number" = true)
  (k60:W.keepIn K (.ref f60) = true)
  (g_z37:W.nsIn K mainGlobals "LONGEST_TEXT" = some (some (.int (2048) t_z37)))
  (g_z25:W.nsIn K mainGlobals "GREATEST_DEPTH" = some (some (.int (40) t_z25)))
  (a61:W.nsIn K mainGlobals "read" = some (some (.ref f61)))
  (l61:K.lookup f61 = some ⟨oc61,od61, .func (W.fnOf "read" "read" (Qa9 Qma) (Qa8 Qma) (Qa1 Qma) .none kV61 dc61 pm61 an61 cd61 ct61),sl61⟩)
  (c61:W.codeIn K cd61 "read" = true)
  (k61:W.keepIn K (.ref f61) = true)
  (a62:W.nsIn K mainGlobals "plain" = some (some (.ref f62)))
  (l62:K.lookup f62 = some ⟨oc62,od62, .func (W.fnOf "plain" "plain" (Qa9 Qmb) (Qa8 Qmb) (Qa1 Qmb) .none kV62 dc62 pm62 an62 cd62 ct62),sl62⟩)
  (c62:W.codeIn K cd62 "plain" = true)
  (k62:W.keepIn K (.ref f62) = true)
  (a63:W.nsIn K mainGlobals "answered" = some (some (.ref f63)))
  (l63:K.lookup f63 = some ⟨oc63,od63, .func (W.fnOf "answered" "answered" (Qa9 Qmf) (Qa8 Qmf) (Qa1 Qmf) .none kV63 dc63 pm63 an63 cd63 ct63),sl63⟩)
  (c63:W.codeIn K cd63 "answered" = true)
  (k63:W.keepIn K (.ref f63) = true)
  (z_int:W.nsIn K mainGlobals "int" = some none)
  (z_len:W.nsIn K mainGlobals "len" = some none)
  (z_list:W.nsIn K mainGlobals "list" = some none)
  (z_max:W.nsIn K mainGlobals "max" = some none)
  (z_ord:W.nsIn K mainGlobals "ord" = some none)
  (z_range:W.nsIn K mainGlobals "range" = some none)
  (z_reversed:W.nsIn K mainGlobals "reversed" = some none)
  (z_str:W.nsIn K mainGlobals "str" = some none)
  (z_sum:W.nsIn K mainGlobals "sum" = some none) :
  ∃ a:Ad,a.wd = w∧Txt K mg a:=by
 have F1:=Qaf (st:=Qn0) l1 c1 k1
 have b1:=F1.binds (ps:=["self", "number", "position"]) fun _ _ _ _ _ _ us hl=>match us,hl with | [_,_,_],_=>rfl
 have F2:=Qaf (st:=Qn6) l2 c2 k2
 have b2:=F2.binds (ps:=["self"]) fun _ _ _ _ _ _ us hl=>match us,hl with | [_],_=>rfl
 have F3:=Qaf (st:=s_qw) l3 c3 k3
 have b3:=F3.binds (ps:=["self", "position"]) fun _ _ _ _ _ _ us hl=>match us,hl with | [_,_],_=>rfl
 have F4:=Qaf (st:=s_qn) l4 c4 k4
 have b4:=F4.binds (ps:=["self", "position"]) fun _ _ _ _ _ _ us hl=>match us,hl with | [_,_],_=>rfl
 have F5:=Qaf (st:=Qn9) l5 c5 k5
 have b5:=F5.binds (ps:=["self", "position"]) fun _ _ _ _ _ _ us hl=>match us,hl with | [_,_],_=>rfl
 have F6:=Qaf (st:=s_qz) l6 c6 k6
 have b6:=F6.binds (ps:=["self", "position"]) fun _ _ _ _ _ _ us hl=>match us,hl with | [_,_],_=>rfl
 have F7:=Qaf (st:=s_qy) l7 c7 k7
 have b7:=F7.binds (ps:=["self", "position"]) fun _ _ _ _ _ _ us hl=>match us,hl with | [_,_],_=>rfl
 have F8:=Qaf (st:=s_qx) l8 c8 k8
 have b8:=F8.binds (ps:=["self"]) fun _ _ _ _ _ _ us hl=>match us,hl with | [_],_=>rfl
 have F9:=Qaf (st:=s_qk) l9 c9 k9
 have b9:=F9.binds (ps:=["self"]) fun _ _ _ _ _ _ us hl=>match us,hl with | [_],_=>rfl
 have F10:=Qaf (st:=Qms) l10 c10 k10
 have b10:=F10.binds (ps:=["self"]) fun _ _ _ _ _ _ us hl=>match us,hl with | [_],_=>rfl
 have F11:=Qaf (st:=Qmp) l11 c11 k11
 have b11:=F11.binds (ps:=["self", "token", "own"]) fun _ _ _ _ _ _ us hl=>match us,hl with | [_,_,_],_=>rfl
 have F12:=Qaf (st:=s_qh) l12 c12 k12
 have b12:=F12.binds (ps:=["self", "token", "own"]) fun _ _ _ _ _ _ us hl=>match us,hl with | [_,_,_],_=>rfl
 have F13:=Qaf (st:=s_ql) l13 c13 k13
 have b13:=F13.binds (ps:=["self", "tokens"]) fun _ _ _ _ _ _ us hl=>match us,hl with | [_,_],_=>rfl
 have F14:=Qaf (st:=s_qi) l14 c14 k14
 have b14:=F14.binds (ps:=["self", "token", "within_body"]) fun _ _ _ _ _ _ us hl=>match us,hl with | [_,_,_],_=>rfl
 have F15:=Qaf (st:=s_qj) l15 c15 k15
 have b15:=F15.binds (ps:=["self", "token"]) fun _ _ _ _ _ _ us hl=>match us,hl with | [_,_],_=>rfl
 have F16:=Qaf (st:=Qml) l16 c16 k16
 have b16:=F16.binds (ps:=["tokens"]) fun _ _ _ _ _ _ us hl=>match us,hl with | [_],_=>rfl
 have F17:=Qaf (st:=Qmt) l17 c17 k17
 have b17:=F17.binds (ps:=["self", "kind", "position", "spelling"]) fun _ _ _ _ _ _ us hl=>match us,hl with | [_,_,_,_],_=>rfl
 have F18:=Qaf (st:=Qna) l18 c18 k18
 have b18:=F18.binds (ps:=["text"]) fun _ _ _ _ _ _ us hl=>match us,hl with | [_],_=>rfl
 have F19:=Qaf (st:=Qme) l19 c19 k19
 have b19:=F19.binds (ps:=["byte"]) fun _ _ _ _ _ _ us hl=>match us,hl with | [_],_=>rfl
 have F20:=Qaf (st:=Qn5) l20 c20 k20
 have b20:=F20.binds (ps:=["source", "place"]) fun _ _ _ _ _ _ us hl=>match us,hl with | [_,_],_=>rfl
 have F21:=Qaf (st:=Qmh) l21 c21 k21
 have b21:=F21.binds (ps:=["source", "place"]) fun _ _ _ _ _ _ us hl=>match us,hl with | [_,_],_=>rfl
 have F22:=Qaf (st:=Qmm) l22 c22 k22
 have b22:=F22.binds (ps:=["source", "place"]) fun _ _ _ _ _ _ us hl=>match us,hl with | [_,_],_=>rfl
 have F23:=Qaf (st:=Qmc) l23 c23 k23
 have b23:=F23.binds (ps:=["source", "place", "kind"]) fun _ _ _ _ _ _ us hl=>match us,hl with | [_,_,_],_=>rfl
 have F24:=Qaf (st:=Qmx) l24 c24 k24
 have b24:=F24.binds (ps:=["source", "place"]) fun _ _ _ _ _ _ us hl=>match us,hl with | [_,_],_=>rfl
 have F25:=Qaf (st:=Qmg) l25 c25 k25
 have b25:=F25.binds (ps:=["source", "place"]) fun _ _ _ _ _ _ us hl=>match us,hl with | [_,_],_=>rfl
 have F26:=Qaf (st:=Qmr) l26 c26 k26
 have b26:=F26.binds (ps:=["sign", "place"]) fun _ _ _ _ _ _ us hl=>match us,hl with | [_,_],_=>rfl
 have F27:=Qaf (st:=Qmi) l27 c27 k27
 have b27:=F27.binds (ps:=["token"]) fun _ _ _ _ _ _ us hl=>match us,hl with | [_],_=>rfl
 have F28:=Qaf (st:=Qmn) l28 c28 k28
 have b28:=F28.binds (ps:=["self", "kind", "word", "numbers", "parts"]) fun _ _ _ _ _ _ us hl=>match us,hl with | [_,_,_,_,_],_=>rfl
 have F29:=Qaf (st:=Qmk) l29 c29 k29
 have b29:=F29.binds (ps:=["kind", "parts"]) fun _ _ _ _ _ _ us hl=>match us,hl with | [_,_],_=>rfl
 have F30:=Qaf (st:=Qmq) l30 c30 k30
 have b30:=F30.binds (ps:=["node"]) fun _ _ _ _ _ _ us hl=>match us,hl with | [_],_=>rfl
 have F31:=Qaf (st:=Qn8) l31 c31 k31
 have b31:=F31.binds (ps:=["self", "name", "node"]) fun _ _ _ _ _ _ us hl=>match us,hl with | [_,_,_],_=>rfl
 have F32:=Qaf (st:=Qmz) l32 c32 k32
 have b32:=F32.binds (ps:=["self", "statements", "expression", "atoms", "inputs"]) fun _ _ _ _ _ _ us hl=>match us,hl with | [_,_,_,_,_],_=>rfl
 have F33:=Qaf (st:=Qn2) l33 c33 k33
 have b33:=F33.binds (ps:=["numbers"]) fun _ _ _ _ _ _ us hl=>match us,hl with | [_],_=>rfl
 have F34:=Qaf (st:=Qmo) l34 c34 k34
 have b34:=F34.binds (ps:=["kind", "word"]) fun _ _ _ _ _ _ us hl=>match us,hl with | [_,_],_=>rfl
 have F35:=Qaf (st:=Qmj) l35 c35 k35
 have b35:=F35.binds (ps:=["expression"]) fun _ _ _ _ _ _ us hl=>match us,hl with | [_],_=>rfl
 have F36:=Qaf (st:=Qn4) l36 c36 k36
 have b36:=F36.binds (ps:=["modifier", "rank", "function"]) fun _ _ _ _ _ _ us hl=>match us,hl with | [_,_,_],_=>rfl
 have F37:=Qaf (st:=Qn3) l37 c37 k37
 have b37:=F37.binds (ps:=["left", "function", "right"]) fun _ _ _ _ _ _ us hl=>match us,hl with | [_,_,_],_=>rfl
 have F38:=Qaf (st:=Qmw) l38 c38 k38
 have b38:=F38.binds (ps:=["self", "tokens"]) fun _ _ _ _ _ _ us hl=>match us,hl with | [_,_],_=>rfl
 have F39:=Qaf (st:=s_qt) l39 c39 k39
 have b39:=F39.binds (ps:=["self"]) fun _ _ _ _ _ _ us hl=>match us,hl with | [_],_=>rfl
 have F40:=Qaf (st:=Qmy) l40 c40 k40
 have b40:=F40.binds (ps:=["self"]) fun _ _ _ _ _ _ us hl=>match us,hl with | [_],_=>rfl
 have F41:=Qaf (st:=s_qr) l41 c41 k41
 have b41:=F41.binds (ps:=["self", "kind"]) fun _ _ _ _ _ _ us hl=>match us,hl with | [_,_],_=>rfl
 have F42:=Qaf (st:=s_qa) l42 c42 k42
 have b42:=F42.binds (ps:=["self"]) fun _ _ _ _ _ _ us hl=>match us,hl with | [_],_=>rfl
 have F43:=Qaf (st:=s_qp) l43 c43 k43
 have b43:=F43.binds (ps:=["self"]) fun _ _ _ _ _ _ us hl=>match us,hl with | [_],_=>rfl
 have F44:=Qaf (st:=s_qc) l44 c44 k44
 have b44:=F44.binds (ps:=["self"]) fun _ _ _ _ _ _ us hl=>match us,hl with | [_],_=>rfl
 have F45:=Qaf (st:=s_qb) l45 c45 k45
 have b45:=F45.binds (ps:=["self", "level"]) fun _ _ _ _ _ _ us hl=>match us,hl with | [_,_],_=>rfl
 have F46:=Qaf (st:=s_qe) l46 c46 k46
 have b46:=F46.binds (ps:=["self", "level"]) fun _ _ _ _ _ _ us hl=>match us,hl with | [_,_],_=>rfl
 have F47:=Qaf (st:=s_qf) l47 c47 k47
 have b47:=F47.binds (ps:=["self"]) fun _ _ _ _ _ _ us hl=>match us,hl with | [_],_=>rfl
 have F48:=Qaf (st:=s_qd) l48 c48 k48
 have b48:=F48.binds (ps:=["self", "level"]) fun _ _ _ _ _ _ us hl=>match us,hl with | [_,_],_=>rfl
 have F49:=Qaf (st:=s_qq) l49 c49 k49
 have b49:=F49.binds (ps:=["self", "level"]) fun _ _ _ _ _ _ us hl=>match us,hl with | [_,_],_=>rfl
 have F50:=Qaf (st:=s_qs) l50 c50 k50
 have b50:=F50.binds (ps:=["self"]) fun _ _ _ _ _ _ us hl=>match us,hl with | [_],_=>rfl
 have F51:=Qaf (st:=s_qg) l51 c51 k51
 have b51:=F51.binds (ps:=["waiting", "last"]) fun _ _ _ _ _ _ us hl=>match us,hl with | [_,_],_=>rfl
 have F52:=Qaf (st:=Qmv) l52 c52 k52
 have b52:=F52.binds (ps:=["program"]) fun _ _ _ _ _ _ us hl=>match us,hl with | [_],_=>rfl
 have F53:=Qaf (st:=Qmu) l53 c53 k53
 have b53:=F53.binds (ps:=["form"]) fun _ _ _ _ _ _ us hl=>match us,hl with | [_],_=>rfl
 have F54:=Qaf (st:=s_qu) l54 c54 k54
 have b54:=F54.binds (ps:=["program"]) fun _ _ _ _ _ _ us hl=>match us,hl with | [_],_=>rfl
 have F55:=Qaf (st:=s_qm) l55 c55 k55
 have b55:=F55.binds (ps:=["statement"]) fun _ _ _ _ _ _ us hl=>match us,hl with | [_],_=>rfl
 have F56:=Qaf (st:=Qmd) l56 c56 k56
 have b56:=F56.binds (ps:=["node"]) fun _ _ _ _ _ _ us hl=>match us,hl with | [_],_=>rfl
 have F57:=Qaf (st:=Qn1) l57 c57 k57
 have b57:=F57.binds (ps:=["node"]) fun _ _ _ _ _ _ us hl=>match us,hl with | [_],_=>rfl
 have F58:=Qaf (st:=s_qo) l58 c58 k58
 have b58:=F58.binds (ps:=["node"]) fun _ _ _ _ _ _ us hl=>match us,hl with | [_],_=>rfl
 have F59:=Qaf (st:=s_qv) l59 c59 k59
 have b59:=F59.binds (ps:=["numbers"]) fun _ _ _ _ _ _ us hl=>match us,hl with | [_],_=>rfl
 have F60:=Qaf (st:=Qn7) l60 c60 k60
 have b60:=F60.binds (ps:=["number"]) fun _ _ _ _ _ _ us hl=>match us,hl with | [_],_=>rfl
 have F61:=Qaf (st:=Qma) l61 c61 k61
 have b61:=F61.binds (ps:=["text"]) fun _ _ _ _ _ _ us hl=>match us,hl with | [_],_=>rfl
 have F62:=Qaf (st:=Qmb) l62 c62 k62
 have b62:=F62.binds (ps:=["text"]) fun _ _ _ _ _ _ us hl=>match us,hl with | [_],_=>rfl
 have F63:=Qaf (st:=Qmf) l63 c63 k63
 have b63:=F63.binds (ps:=["text", "tell"]) fun _ _ _ _ _ _ us hl=>match us,hl with | [_,_],_=>rfl
 exact ⟨{ wd:=w,c_Refused:=C_z70,f_qaj:=f1,fd_qaj:=_,c_LongFault:=C_z62,f_qad:=f2,fd_qad:=_,c_TokenFault:=C_z59,f_qw:=f3,fd_qw:=_,c_SyntaxFault:=C_z50,f_qn:=f4,fd_qn:=_,c_DeepFault:=C_z61,f_qaa:=f5,fd_qaa:=_,c_NameFault:=C_z68,f_qz:=f6,fd_qz:=_,c_TwiceFault:=C_z55,f_qy:=f7,fd_qy:=_,c_DepthFault:=C_z58,f_qx:=f8,fd_qx:=_,c_LongFormFault:=C_z33,f_qk:=f9,fd_qk:=_,p_PRIMITIVE_WORDS:=P_z21,p_ARGUMENTS:=P_z63,c_Names:=C_z76,f_qar:=f10,fd_qar:=_,f_qau:=f11,fd_qau:=_,f_qh:=f12,fd_qh:=_,f_ql:=f13,fd_ql:=_,f_qi:=f14,fd_qi:=_,f_qj:=f15,fd_qj:=_,f_qay:=f16,fd_qay:=_,p_SIGNS_BETWEEN_TOKENS:=P_z1,p_BLANKS:=P_z72,p_SIGNS_OF_TWO:=P_z38,p_SIGNS_OF_ONE:=P_z45,p_PRIMITIVE_SIGNS:=P_z22,p_MODIFIERS:=P_z66,c_Token:=C_z74,f_qaq:=f17,fd_qaq:=_,f_cut:=f18,fd_cut:=_,f_qbf:=f19,fd_qbf:=_,f_qae:=f20,fd_qae:=_,f_qbc:=f21,fd_qbc:=_,f_qax:=f22,fd_qax:=_,f_qbh:=f23,fd_qbh:=_,f_qam:=f24,fd_qam:=_,f_qbd:=f25,fd_qbd:=_,f_qas:=f26,fd_qas:=_,f_qbb:=f27,fd_qbb:=_,p_APPLIED_KINDS:=P_z35,c_Node:=C_z77,f_qaw:=f28,fd_qaw:=_,f_qaz:=f29,fd_qaz:=_,f_qat:=f30,fd_qat:=_,c_Statement:=C_z65,f_qab:=f31,fd_qab:=_,c_Program:=C_z71,f_qak:=f32,fd_qak:=_,f_qah:=f33,fd_qah:=_,f_qav:=f34,fd_qav:=_,f_qba:=f35,fd_qba:=_,f_qaf:=f36,fd_qaf:=_,f_qag:=f37,fd_qag:=_,p_GIVEN_KINDS:=P_z49,p_OPERAND_BEGINS:=P_z29,p_FUNCTION_BEGINS:=P_z20,c_Reader:=C_z73,f_qan:=f38,fd_qan:=_,f_qt:=f39,fd_qt:=_,f_qal:=f40,fd_qal:=_,f_qr:=f41,fd_qr:=_,f_qa:=f42,fd_qa:=_,f_qp:=f43,fd_qp:=_,f_qc:=f44,fd_qc:=_,f_qb:=f45,fd_qb:=_,f_qe:=f46,fd_qe:=_,f_qf:=f47,fd_qf:=_,f_qd:=f48,fd_qd:=_,f_qq:=f49,fd_qq:=_,f_qs:=f50,fd_qs:=_,f_qg:=f51,fd_qg:=_,f_qao:=f52,fd_qao:=_,f_qap:=f53,fd_qap:=_,f_qu:=f54,fd_qu:=_,f_qm:=f55,fd_qm:=_,f_qbg:=f56,fd_qbg:=_,f_qai:=f57,fd_qai:=_,f_qo:=f58,fd_qo:=_,f_qv:=f59,fd_qv:=_,f_qac:=f60,fd_qac:=_,f_qbj:=f61,fd_qbj:=_,f_qbi:=f62,fd_qbi:=_,f_qbe:=f63,fd_qbe:=_ },rfl,{ g_Refused:=W.mg_of X G g_z70,F_qaj:=F1,B_qaj:=b1,em_Refused:=⟨⟨ex_z70,ov_z70,sa_z70,ga_z70,gx_z70,hd_z70⟩,a1,i1,kc_z70⟩,sb_Refused:=sb_z70,n_Refused_number:=n_z23,n_Refused_position:=n_z16,ub_Refused:=⟨rd_z70,fc_z70,sp_z70,k1⟩,g_LongFault:=W.mg_of X G g_z62,F_qad:=F2,B_qad:=b2,em_LongFault:=⟨⟨ex_z62,ov_z62,sa_z62,ga_z62,gx_z62,hd_z62⟩,a2,i2,kc_z62⟩,sb_LongFault:=sb_z62,n_LongFault_number:=n_z19,n_LongFault_position:=n_z10,g_TokenFault:=W.mg_of X G g_z59,F_qw:=F3,B_qw:=b3,em_TokenFault:=⟨⟨ex_z59,ov_z59,sa_z59,ga_z59,gx_z59,hd_z59⟩,a3,i3,kc_z59⟩,sb_TokenFault:=sb_z59,n_TokenFault_number:=n_z14,n_TokenFault_position:=n_z4,g_SyntaxFault:=W.mg_of X G g_z50,F_qn:=F4,B_qn:=b4,em_SyntaxFault:=⟨⟨ex_z50,ov_z50,sa_z50,ga_z50,gx_z50,hd_z50⟩,a4,i4,kc_z50⟩,sb_SyntaxFault:=sb_z50,n_SyntaxFault_number:=n_z12,n_SyntaxFault_position:=n_z3,g_DeepFault:=W.mg_of X G g_z61,F_qaa:=F5,B_qaa:=b5,em_DeepFault:=⟨⟨ex_z61,ov_z61,sa_z61,ga_z61,gx_z61,hd_z61⟩,a5,i5,kc_z61⟩,sb_DeepFault:=sb_z61,n_DeepFault_number:=n_z18,n_DeepFault_position:=n_z11,g_NameFault:=W.mg_of X G g_z68,F_qz:=F6,B_qz:=b6,em_NameFault:=⟨⟨ex_z68,ov_z68,sa_z68,ga_z68,gx_z68,hd_z68⟩,a6,i6,kc_z68⟩,sb_NameFault:=sb_z68,n_NameFault_number:=n_z17,n_NameFault_position:=n_z8,g_TwiceFault:=W.mg_of X G g_z55,F_qy:=F7,B_qy:=b7,em_TwiceFault:=⟨⟨ex_z55,ov_z55,sa_z55,ga_z55,gx_z55,hd_z55⟩,a7,i7,kc_z55⟩,sb_TwiceFault:=sb_z55,n_TwiceFault_number:=n_z13,n_TwiceFault_position:=n_z6,g_DepthFault:=W.mg_of X G g_z58,F_qx:=F8,B_qx:=b8,em_DepthFault:=⟨⟨ex_z58,ov_z58,sa_z58,ga_z58,gx_z58,hd_z58⟩,a8,i8,kc_z58⟩,sb_DepthFault:=sb_z58,n_DepthFault_number:=n_z15,n_DepthFault_position:=n_z5,g_LongFormFault:=W.mg_of X G g_z33,F_qk:=F9,B_qk:=b9,em_LongFormFault:=⟨⟨ex_z33,ov_z33,sa_z33,ga_z33,gx_z33,hd_z33⟩,a9,i9,kc_z33⟩,sb_LongFormFault:=sb_z33,n_LongFormFault_number:=n_z2,n_LongFormFault_position:=n_z0,g_PRIMITIVE_WORDS:=W.mg_of X G g_z21,q_PRIMITIVE_WORDS:=fun H=>.inr ⟨_,_,_,l_z21,rfl,rfl,(by show 27 ≤ sizeLine;decide), .cons ⟨_,rfl⟩ (.cons ⟨_,rfl⟩ (.cons ⟨_,rfl⟩ (.cons ⟨_,rfl⟩ (.cons ⟨_,rfl⟩ (.cons ⟨_,rfl⟩ (.cons ⟨_,rfl⟩ (.cons ⟨_,rfl⟩ (.cons ⟨_,rfl⟩ (.cons ⟨_,rfl⟩ (.cons ⟨_,rfl⟩ (.cons ⟨_,rfl⟩ (.cons ⟨_,rfl⟩ (.cons ⟨_,rfl⟩ (.cons ⟨_,rfl⟩ (.cons ⟨_,rfl⟩ (.cons ⟨_,rfl⟩ (.cons ⟨_,rfl⟩ (.cons ⟨_,rfl⟩ (.cons ⟨_,rfl⟩ (.cons ⟨_,rfl⟩ (.cons ⟨_,rfl⟩ (.cons ⟨_,rfl⟩ (.cons ⟨_,rfl⟩ (.cons ⟨_,rfl⟩ (.cons ⟨_,rfl⟩ (.cons ⟨_,rfl⟩ (.nil)))))))))))))))))))))))))))⟩,g_ARGUMENTS:=W.mg_of X G g_z63,q_ARGUMENTS:=fun H=>.inr ⟨_,_,_,l_z63,rfl,rfl,(by show 2 ≤ sizeLine;decide), .cons ⟨_,rfl⟩ (.cons ⟨_,rfl⟩ (.nil))⟩,g_Names:=W.mg_of X G g_z76,F_qar:=F10,B_qar:=b10,F_qau:=F11,B_qau:=b11,m_qau:=⟨a11,i11,k11⟩,F_qh:=F12,B_qh:=b12,m_qh:=⟨a12,i12,k12⟩,F_ql:=F13,B_ql:=b13,m_ql:=⟨a13,i13,k13⟩,F_qi:=F14,B_qi:=b14,m_qi:=⟨a14,i14,k14⟩,F_qj:=F15,B_qj:=b15,m_qj:=⟨a15,i15,k15⟩,cl_Names:=⟨pg_z76,hd_z76,po_z76,sa_z76⟩,mk_Names:=⟨mk_z76,a10,i10,kc_z76⟩,n_Names_given:=n_z52,n_Names_inputs:=n_z43,F_qay:=F16,B_qay:=b16,g_qay:=W.mg_of X G a16,g_FIRST_SIGN:=⟨_,W.mg_of X G g_z54,_,rfl⟩,g_SIGNS:=⟨_,W.mg_of X G g_z75,_,rfl⟩,y_SIGNS_BETWEEN_TOKENS:=y_z1,g_SIGNS_BETWEEN_TOKENS:=W.mg_of X G g_z1,q_SIGNS_BETWEEN_TOKENS:=⟨_,_,_,_,_,_,_,_,_,_,_,l_z1⟩,g_NO_SIGN:=⟨_,W.mg_of X G g_z69,_,rfl⟩,g_BLANKS:=W.mg_of X G g_z72,q_BLANKS:=fun H=>.inr ⟨_,_,_,l_z72,rfl,rfl,(by show 2 ≤ sizeLine;decide), .cons ⟨_,rfl⟩ (.cons ⟨_,rfl⟩ (.nil))⟩,g_SIGNS_OF_TWO:=W.mg_of X G g_z38,q_SIGNS_OF_TWO:=fun H=>.inr ⟨_,_,_,l_z38,rfl,rfl,(by show 3 ≤ sizeLine;decide), .cons ⟨_,rfl⟩ (.cons ⟨_,rfl⟩ (.cons ⟨_,rfl⟩ (.nil)))⟩,g_SIGNS_OF_ONE:=W.mg_of X G g_z45,q_SIGNS_OF_ONE:=fun H=>.inr ⟨_,_,_,l_z45,rfl,rfl,(by show 10 ≤ sizeLine;decide), .cons ⟨_,rfl⟩ (.cons ⟨_,rfl⟩ (.cons ⟨_,rfl⟩ (.cons ⟨_,rfl⟩ (.cons ⟨_,rfl⟩ (.cons ⟨_,rfl⟩ (.cons ⟨_,rfl⟩ (.cons ⟨_,rfl⟩ (.cons ⟨_,rfl⟩ (.cons ⟨_,rfl⟩ (.nil))))))))))⟩,g_PRIMITIVE_SIGNS:=W.mg_of X G g_z22,q_PRIMITIVE_SIGNS:=fun H=>.inr ⟨_,_,_,l_z22,rfl,rfl,(by show 7 ≤ sizeLine;decide), .cons ⟨_,rfl⟩ (.cons ⟨_,rfl⟩ (.cons ⟨_,rfl⟩ (.cons ⟨_,rfl⟩ (.cons ⟨_,rfl⟩ (.cons ⟨_,rfl⟩ (.cons ⟨_,rfl⟩ (.nil)))))))⟩,g_MODIFIERS:=W.mg_of X G g_z66,q_MODIFIERS:=fun H=>.inr ⟨_,_,_,l_z66,rfl,rfl,(by show 5 ≤ sizeLine;decide), .cons ⟨_,rfl⟩ (.cons ⟨_,rfl⟩ (.cons ⟨_,rfl⟩ (.cons ⟨_,rfl⟩ (.cons ⟨_,rfl⟩ (.nil)))))⟩,g_MOST_DIGITS:=⟨_,W.mg_of X G g_z47,_,rfl⟩,g_LARGEST_NUMBER:=⟨_,W.mg_of X G g_z26,_,rfl⟩,g_LONGEST_NAME:=⟨_,W.mg_of X G g_z46,_,rfl⟩,g_Token:=W.mg_of X G g_z74,F_qaq:=F17,B_qaq:=b17,cl_Token:=⟨pg_z74,hd_z74,po_z74,sa_z74⟩,mk_Token:=⟨mk_z74,a17,i17,kc_z74⟩,n_Token_kind:=n_z56,n_Token_position:=n_z30,n_Token_spelling:=n_z24,F_cut:=F18,B_cut:=b18,g_cut:=W.mg_of X G a18,F_qbf:=F19,B_qbf:=b19,g_qbf:=W.mg_of X G a19,F_qae:=F20,B_qae:=b20,g_qae:=W.mg_of X G a20,F_qbc:=F21,B_qbc:=b21,g_qbc:=W.mg_of X G a21,F_qax:=F22,B_qax:=b22,g_qax:=W.mg_of X G a22,F_qbh:=F23,B_qbh:=b23,g_qbh:=W.mg_of X G a23,F_qam:=F24,B_qam:=b24,g_qam:=W.mg_of X G a24,F_qbd:=F25,B_qbd:=b25,g_qbd:=W.mg_of X G a25,F_qas:=F26,B_qas:=b26,g_qas:=W.mg_of X G a26,F_qbb:=F27,B_qbb:=b27,g_qbb:=W.mg_of X G a27,g_APPLIED_KINDS:=W.mg_of X G g_z35,q_APPLIED_KINDS:=fun H=>.inr ⟨_,_,_,l_z35,rfl,rfl,(by show 2 ≤ sizeLine;decide), .cons ⟨_,rfl⟩ (.cons ⟨_,rfl⟩ (.nil))⟩,g_Node:=W.mg_of X G g_z77,F_qaw:=F28,B_qaw:=b28,cl_Node:=⟨pg_z77,hd_z77,po_z77,sa_z77⟩,mk_Node:=⟨mk_z77,a28,i28,kc_z77⟩,n_Node_kind:=n_z67,n_Node_word:=n_z64,n_Node_numbers:=n_z41,n_Node_parts:=n_z53,n_Node_depth:=n_z57,n_Node_levels:=n_z51,n_Node_nodes:=n_z60,F_qaz:=F29,B_qaz:=b29,g_qaz:=W.mg_of X G a29,F_qat:=F30,B_qat:=b30,g_qat:=W.mg_of X G a30,g_Statement:=W.mg_of X G g_z65,F_qab:=F31,B_qab:=b31,cl_Statement:=⟨pg_z65,hd_z65,po_z65,sa_z65⟩,mk_Statement:=⟨mk_z65,a31,i31,kc_z65⟩,n_Statement_name:=n_z27,n_Statement_node:=n_z28,g_Program:=W.mg_of X G g_z71,F_qak:=F32,B_qak:=b32,cl_Program:=⟨pg_z71,hd_z71,po_z71,sa_z71⟩,mk_Program:=⟨mk_z71,a32,i32,kc_z71⟩,n_Program_statements:=n_z7,n_Program_expression:=n_z9,n_Program_atoms:=n_z36,n_Program_inputs:=n_z31,n_Program_depth:=n_z34,F_qah:=F33,B_qah:=b33,g_qah:=W.mg_of X G a33,F_qav:=F34,B_qav:=b34,g_qav:=W.mg_of X G a34,F_qba:=F35,B_qba:=b35,g_qba:=W.mg_of X G a35,F_qaf:=F36,B_qaf:=b36,g_qaf:=W.mg_of X G a36,F_qag:=F37,B_qag:=b37,g_qag:=W.mg_of X G a37,g_MOST_LEVELS:=⟨_,W.mg_of X G g_z48,_,rfl⟩,g_LARGEST_RANK:=⟨_,W.mg_of X G g_z42,_,rfl⟩,g_GIVEN_KINDS:=W.mg_of X G g_z49,q_GIVEN_KINDS:=fun H=>.inr ⟨_,_,_,l_z49,rfl,rfl,(by show 2 ≤ sizeLine;decide), .cons ⟨_,rfl⟩ (.cons ⟨_,rfl⟩ (.nil))⟩,g_OPERAND_BEGINS:=W.mg_of X G g_z29,q_OPERAND_BEGINS:=fun H=>.inr ⟨_,_,_,l_z29,rfl,rfl,(by show 3 ≤ sizeLine;decide), .cons ⟨_,rfl⟩ (.cons ⟨_,rfl⟩ (.cons ⟨_,rfl⟩ (.nil)))⟩,g_FUNCTION_BEGINS:=W.mg_of X G g_z20,q_FUNCTION_BEGINS:=fun H=>.inr ⟨_,_,_,l_z20,rfl,rfl,(by show 3 ≤ sizeLine;decide), .cons ⟨_,rfl⟩ (.cons ⟨_,rfl⟩ (.cons ⟨_,rfl⟩ (.nil)))⟩,g_Reader:=W.mg_of X G g_z73,F_qan:=F38,B_qan:=b38,F_qt:=F39,B_qt:=b39,m_qt:=⟨a39,i39,k39⟩,F_qal:=F40,B_qal:=b40,m_qal:=⟨a40,i40,k40⟩,F_qr:=F41,B_qr:=b41,m_qr:=⟨a41,i41,k41⟩,F_qa:=F42,B_qa:=b42,m_qa:=⟨a42,i42,k42⟩,F_qp:=F43,B_qp:=b43,m_qp:=⟨a43,i43,k43⟩,F_qc:=F44,B_qc:=b44,m_qc:=⟨a44,i44,k44⟩,F_qb:=F45,B_qb:=b45,m_qb:=⟨a45,i45,k45⟩,F_qe:=F46,B_qe:=b46,m_qe:=⟨a46,i46,k46⟩,F_qf:=F47,B_qf:=b47,m_qf:=⟨a47,i47,k47⟩,F_qd:=F48,B_qd:=b48,m_qd:=⟨a48,i48,k48⟩,F_qq:=F49,B_qq:=b49,m_qq:=⟨a49,i49,k49⟩,F_qs:=F50,B_qs:=b50,m_qs:=⟨a50,i50,k50⟩,cl_Reader:=⟨pg_z73,hd_z73,po_z73,sa_z73⟩,mk_Reader:=⟨mk_z73,a38,i38,kc_z73⟩,n_Reader_tokens:=n_z32,n_Reader_place:=n_z40,n_Reader_atoms:=n_z44,F_qg:=F51,B_qg:=b51,g_qg:=W.mg_of X G a51,g_LONGEST_FORM:=⟨_,W.mg_of X G g_z39,_,rfl⟩,F_qao:=F52,B_qao:=b52,g_qao:=W.mg_of X G a52,F_qap:=F53,B_qap:=b53,g_qap:=W.mg_of X G a53,F_qu:=F54,B_qu:=b54,g_qu:=W.mg_of X G a54,F_qm:=F55,B_qm:=b55,g_qm:=W.mg_of X G a55,F_qbg:=F56,B_qbg:=b56,g_qbg:=W.mg_of X G a56,F_qai:=F57,B_qai:=b57,g_qai:=W.mg_of X G a57,F_qo:=F58,B_qo:=b58,g_qo:=W.mg_of X G a58,F_qv:=F59,B_qv:=b59,g_qv:=W.mg_of X G a59,F_qac:=F60,B_qac:=b60,g_qac:=W.mg_of X G a60,g_LONGEST_TEXT:=⟨_,W.mg_of X G g_z37,_,rfl⟩,g_GREATEST_DEPTH:=⟨_,W.mg_of X G g_z25,_,rfl⟩,F_qbj:=F61,B_qbj:=b61,g_qbj:=W.mg_of X G a61,F_qbi:=F62,B_qbi:=b62,g_qbi:=W.mg_of X G a62,F_qbe:=F63,B_qbe:=b63,g_qbe:=W.mg_of X G a63,z_int:=W.mg_none_of X G z_int,z_len:=W.mg_none_of X G z_len,z_list:=W.mg_none_of X G z_list,z_max:=W.mg_none_of X G z_max,z_ord:=W.mg_none_of X G z_ord,z_range:=W.mg_none_of X G z_range,z_reversed:=W.mg_none_of X G z_reversed,z_str:=W.mg_none_of X G z_str,z_sum:=W.mg_none_of X G z_sum }⟩
def xf (n p:Int):List (Str × V):=[("number", .int n),("position", .int p)]
structure Qdh (K:PySem.W.Frag) (R C:Addr):Prop where
 cl:ECl K C
 nn:Qah K C "number"
 np:Qah K C "position"
 sb:subE K C R = true
def EW (K:PySem.W.Frag) (R:Addr) (n p:Int):XK:=fun cls d H'=>∃ C dx,cls = .ref C∧d = some dx∧Qdh K R C∧H' dx = some (XD dx (xf n p))
def spX (K:PySem.W.Frag) (x C:Addr) (n p:Int) (H:Hp) (Q:VK):Prop:=H x = some (XO x C none .none)∧ECl K C∧Qah K C "number" ∧ Qah K C "position" ∧
 ∀ H' dx,H dx = none→dx ≠ x→H' x = some (XO x C (some dx) .none)→H' dx = some (XD dx (xf n p))→(∀ b,b ≠ x→b ≠ dx→H' b = H b)→Q .non H'
def spRI (K:PySem.W.Frag):Sp:=fun vs H Q _=>∃ x C n p,vs = [.ref x, .int n, .int p]∧spX K x C n p H Q
def spFI (K:PySem.W.Frag) (n:Int):Sp:=fun vs H Q _=>∃ x C p,vs = [.ref x, .int p]∧spX K x C n p H Q
def spF0 (K:PySem.W.Frag) (n:Int):Sp:=fun vs H Q _=>∃ x C,vs = [.ref x]∧spX K x C n 0 H Q
section
variable {P : Program} {w : World} {K : PySem.W.Frag} {mg : Str → Option Value} {base : Heap} {a : Ad}
theorem Qfi (T:Txt K mg a):FnOk P w K mg base CX0 1 a.f_qaj a.fd_qaj ["self", "number", "position"] (spRI K):=by
 refine T.F_qaj.ok Qwh (fun vs H Q E h=>?_) (fun cdv A outer s H vs Q E hr h=>?_)
 ·obtain ⟨x,C,n,p,rfl,_⟩:=h
  rfl
 ·obtain ⟨x,C,n,p,rfl,hx,c,n1,n2,k⟩:=h
  refine ⟨_,Qa2 (Qwt (pv 0) (pv 1) rfl) (Qa4 (ps_xf (pv 0) (pv 2) rfl)),?_⟩
  refine ⟨_,rfl,_,rfl,x,C,_,rfl,hx,c,n1,fun dx hd=>?_⟩
  have ne:dx ≠ x:=fun q=>by rw [q,hx] at hd;cases hd
  refine ⟨_,rfl,_,rfl,x,C,dx,_,_,rfl,Qa3,(by rw [Qa6 ne,Qa3]),ne,c,n2,(by show 1 < 1000;decide),?_⟩
  refine k _ dx hd ne (by rw [Qa6 (Ne.symm ne),Qa3]) (by rw [Qa3];rfl) fun b h1 h2=>by rw [Qa6 h2,Qa6 h1,Qa6 h2]
theorem Qxp (T:Txt K mg a):FnOk P w K mg base CX0 2 a.f_qad a.fd_qad ["self"] (spF0 K 1):=by
 refine T.F_qad.ok Qwm (fun vs H Q E h=>?_) (fun cdv A outer s H vs Q E hr h=>?_)
 ·obtain ⟨x,C,rfl,_⟩:=h
  rfl
 ·obtain ⟨x,C,rfl,h⟩:=h
  refine ⟨_,Qa4 (Qaw (Qfg rfl T.g_Refused T.ub_Refused (Qfi T) hr T.B_qaj Qam (Qa0 (pv 0) (Qa0 Qai (Qa0 Qai Qa5))))),?_⟩
  exact ⟨_,rfl,x,C,1,0,rfl,h⟩
theorem Qjq (T:Txt K mg a):Qdh K a.c_Refused a.c_LongFault:=⟨T.em_LongFault.cl,T.n_LongFault_number,T.n_LongFault_position,T.sb_LongFault⟩
theorem Qp3 (T:Txt K mg a):FnOk P w K mg base CX0 2 a.f_qw a.fd_qw ["self", "position"] (spFI K 2):=by
 refine T.F_qw.ok sc_qw (fun vs H Q E h=>?_) (fun cdv A outer s H vs Q E hr h=>?_)
 ·obtain ⟨x,C,p,rfl,_⟩:=h
  rfl
 ·obtain ⟨x,C,p,rfl,h⟩:=h
  refine ⟨_,Qa4 (Qaw (Qfg rfl T.g_Refused T.ub_Refused (Qfi T) hr T.B_qaj Qam (Qa0 (pv 0) (Qa0 Qai (Qa0 (pv 1) Qa5))))),?_⟩
  exact ⟨_,rfl,_,rfl,x,C,2,p,rfl,h⟩
theorem Qbg (T:Txt K mg a):Qdh K a.c_Refused a.c_TokenFault:=⟨T.em_TokenFault.cl,T.n_TokenFault_number,T.n_TokenFault_position,T.sb_TokenFault⟩
theorem Qx4 (T:Txt K mg a):FnOk P w K mg base CX0 2 a.f_qn a.fd_qn ["self", "position"] (spFI K 3):=by
 refine T.F_qn.ok sc_qn (fun vs H Q E h=>?_) (fun cdv A outer s H vs Q E hr h=>?_)
 ·obtain ⟨x,C,p,rfl,_⟩:=h
  rfl
 ·obtain ⟨x,C,p,rfl,h⟩:=h
  refine ⟨_,Qa4 (Qaw (Qfg rfl T.g_Refused T.ub_Refused (Qfi T) hr T.B_qaj Qam (Qa0 (pv 0) (Qa0 Qai (Qa0 (pv 1) Qa5))))),?_⟩
  exact ⟨_,rfl,_,rfl,x,C,3,p,rfl,h⟩
theorem Qcy (T:Txt K mg a):Qdh K a.c_Refused a.c_SyntaxFault:=⟨T.em_SyntaxFault.cl,T.n_SyntaxFault_number,T.n_SyntaxFault_position,T.sb_SyntaxFault⟩
theorem Qxs (T:Txt K mg a):FnOk P w K mg base CX0 2 a.f_qaa a.fd_qaa ["self", "position"] (spFI K 4):=by
 refine T.F_qaa.ok Qwp (fun vs H Q E h=>?_) (fun cdv A outer s H vs Q E hr h=>?_)
 ·obtain ⟨x,C,p,rfl,_⟩:=h
  rfl
 ·obtain ⟨x,C,p,rfl,h⟩:=h
  refine ⟨_,Qa4 (Qaw (Qfg rfl T.g_Refused T.ub_Refused (Qfi T) hr T.B_qaj Qam (Qa0 (pv 0) (Qa0 Qai (Qa0 (pv 1) Qa5))))),?_⟩
  exact ⟨_,rfl,_,rfl,x,C,4,p,rfl,h⟩
theorem Qjr (T:Txt K mg a):Qdh K a.c_Refused a.c_DeepFault:=⟨T.em_DeepFault.cl,T.n_DeepFault_number,T.n_DeepFault_position,T.sb_DeepFault⟩
theorem Qx2 (T:Txt K mg a):FnOk P w K mg base CX0 2 a.f_qz a.fd_qz ["self", "position"] (spFI K 5):=by
 refine T.F_qz.ok sc_qz (fun vs H Q E h=>?_) (fun cdv A outer s H vs Q E hr h=>?_)
 ·obtain ⟨x,C,p,rfl,_⟩:=h
  rfl
 ·obtain ⟨x,C,p,rfl,h⟩:=h
  refine ⟨_,Qa4 (Qaw (Qfg rfl T.g_Refused T.ub_Refused (Qfi T) hr T.B_qaj Qam (Qa0 (pv 0) (Qa0 Qai (Qa0 (pv 1) Qa5))))),?_⟩
  exact ⟨_,rfl,_,rfl,x,C,5,p,rfl,h⟩
theorem Qfk (T:Txt K mg a):Qdh K a.c_Refused a.c_NameFault:=⟨T.em_NameFault.cl,T.n_NameFault_number,T.n_NameFault_position,T.sb_NameFault⟩
theorem ok_qy (T:Txt K mg a):FnOk P w K mg base CX0 2 a.f_qy a.fd_qy ["self", "position"] (spFI K 6):=by
 refine T.F_qy.ok sc_qy (fun vs H Q E h=>?_) (fun cdv A outer s H vs Q E hr h=>?_)
 ·obtain ⟨x,C,p,rfl,_⟩:=h
  rfl
 ·obtain ⟨x,C,p,rfl,h⟩:=h
  refine ⟨_,Qa4 (Qaw (Qfg rfl T.g_Refused T.ub_Refused (Qfi T) hr T.B_qaj Qam (Qa0 (pv 0) (Qa0 Qai (Qa0 (pv 1) Qa5))))),?_⟩
  exact ⟨_,rfl,_,rfl,x,C,6,p,rfl,h⟩
theorem Qib (T:Txt K mg a):Qdh K a.c_Refused a.c_TwiceFault:=⟨T.em_TwiceFault.cl,T.n_TwiceFault_number,T.n_TwiceFault_position,T.sb_TwiceFault⟩
theorem ok_qx (T:Txt K mg a):FnOk P w K mg base CX0 2 a.f_qx a.fd_qx ["self"] (spF0 K 7):=by
 refine T.F_qx.ok sc_qx (fun vs H Q E h=>?_) (fun cdv A outer s H vs Q E hr h=>?_)
 ·obtain ⟨x,C,rfl,_⟩:=h
  rfl
 ·obtain ⟨x,C,rfl,h⟩:=h
  refine ⟨_,Qa4 (Qaw (Qfg rfl T.g_Refused T.ub_Refused (Qfi T) hr T.B_qaj Qam (Qa0 (pv 0) (Qa0 Qai (Qa0 Qai Qa5))))),?_⟩
  exact ⟨_,rfl,x,C,7,0,rfl,h⟩
theorem Qic (T:Txt K mg a):Qdh K a.c_Refused a.c_DepthFault:=⟨T.em_DepthFault.cl,T.n_DepthFault_number,T.n_DepthFault_position,T.sb_DepthFault⟩
end
section
variable {X : Cx} {E : XK} {R C f : Addr} {fd : FuncData} {k : Nat} {n : Int}
theorem Qc8 {nm:Str} {e:Expr} {te:TE} {p cpos pos:Pos} (hc:X.calm = true) (hR:Qlz X E) (M:EMk X.K C f) (F:FnOk X.prog X.w X.K X.mg X.base CX0 k f fd ["self", "position"] (spFI X.K n)) (hr:Room (k + 1) X.A) (hg:Gl X nm) (hm:X.mg nm = some (.ref C)) (hb:Qal X.K fd ["self", "position"] [])
  (he:PE X e te) (hs:starEach [e] X.env = [(false,eval e X.env)]:=by rfl) (hdb:(nm == ("__debug__" : Str)) = false:=by decide):PS X (.Raise (some (.Call (.Name nm p) [e] [] cpos)) none pos) (Qo6 X.K E (tExc C (spFI X.K n) E0 (Qec te tNil))) :=
 Qlb hc hR (Qx0 (E:=E0) M F hr hg hm hb Qam (Qa0 he Qa5 hs) hdb hs rfl)
theorem Qg2 {nm:Str} {p cpos pos:Pos} (hc:X.calm = true) (hR:Qlz X E) (M:EMk X.K C f) (F:FnOk X.prog X.w X.K X.mg X.base CX0 k f fd ["self"] (spF0 X.K n)) (hr:Room (k + 1) X.A) (hg:Gl X nm) (hm:X.mg nm = some (.ref C)) (hb:Qal X.K fd ["self"] [])
  (hdb:(nm == ("__debug__" : Str)) = false:=by decide):PS X (.Raise (some (.Call (.Name nm p) [] [] cpos)) none pos) (Qo6 X.K E (tExc C (spF0 X.K n) E0 tNil)) :=
 Qlb hc hR (Qu5 (E:=E0) M F hr hg hm hb Qam hdb)
end
section
variable {K : PySem.W.Frag} {R C : Addr} {n p : Int} {E : XK} {H : Hp}
theorem Qq3 {x:Addr} (hF:Qdh K R C) (h:∀ cls d H',EW K R n p cls d H'→E cls d H'):spX K x C n p (upd H x (XO x C none .none)) (fun v H2=>v = .non∧∃ x' C dx fs,V.ref x = .ref x'∧ECl K C∧Fly H2 x' C dx .none fs∧E (.ref C) (some dx) (one dx fs)):=by
 refine ⟨Qa3,hF.cl,hF.nn,hF.np,fun H' dx hd ne e1 e2 _=>⟨rfl,x,C,dx,_,rfl,hF.cl,⟨e1, .inl rfl,e2,ne⟩,h _ _ _ ⟨C,dx,rfl,rfl,hF,Qt6⟩⟩⟩
theorem Qbk (hF:Qdh K R C) (h:∀ cls d H',EW K R n p cls d H'→E cls d H'):([.int p]:List V).length ≤ 1000∧∀ x,H x = none→spFI K n (.ref x :: [.int p]) (upd H x (XO x C none .none)) (fun v H2=>v = .non∧∃ x' C dx fs,V.ref x = .ref x'∧ECl K C∧Fly H2 x' C dx .none fs∧E (.ref C) (some dx) (one dx fs)) E0 :=
 ⟨by show 1 ≤ 1000;decide,fun x _=>⟨x,C,p,rfl,Qq3 hF h⟩⟩
theorem Qgj (hF:Qdh K R C) (h:∀ cls d H',EW K R n 0 cls d H'→E cls d H'):([]:List V).length ≤ 1000∧∀ x,H x = none→spF0 K n (.ref x :: []) (upd H x (XO x C none .none)) (fun v H2=>v = .non∧∃ x' C dx fs,V.ref x = .ref x'∧ECl K C∧Fly H2 x' C dx .none fs∧E (.ref C) (some dx) (one dx fs)) E0 :=
 ⟨by show 0 ≤ 1000;decide,fun x _=>⟨x,C,rfl,Qq3 hF h⟩⟩
end
abbrev ss (l:List Nat):Str:=⟨l.toArray⟩
theorem Qb1 (l:List Nat):(ss l).length = l.length:=by show l.toArray.size = _;simp
theorem Qhw (l:List Nat):(ss l).cps.toList = l:=rfl
theorem Ql7 {a b:List Nat} (h:ss a = ss b):a = b:=by have:=congrArg (fun s:Str=>s.cps.toList) h;exact this
theorem Qdi:∀ c < 128,Unicode.isDigit c = Vaarra.digit c∧Unicode.isAlnum c = Vaarra.inner c∧Unicode.isLower c = Vaarra.small c∧Unicode.isUpper c = Vaarra.great c∧Unicode.isTitle c = false:=by decide +kernel
theorem Qg9 {c:Nat} (h:c < 128):Txt.isdigit ⟨#[c]⟩ = Vaarra.digit c:=by
 show (decide (1 > 0) && (#[c]:Array Nat).all Unicode.isDigit) = _
 simp [(Qdi c h).1]
theorem Qp2 {c:Nat} (h:c < 128):Txt.isalnum ⟨#[c]⟩ = Vaarra.inner c:=by
 show (decide (1 > 0) && (#[c]:Array Nat).all Unicode.isAlnum) = _
 simp [(Qdi c h).2.1]
theorem Qka (c:Nat):(Vaarra.small c && !Vaarra.great c) = Vaarra.small c:=b_eq (p:=97 ≤ c∧c ≤ 122) (by simp only [Bool.and_eq_true,Bool.not_eq_true',Qc6,← Bool.not_eq_true,Qcf];omega) (Qc6 c)
theorem Qks (c:Nat):(Vaarra.great c && !Vaarra.small c) = Vaarra.great c:=b_eq (p:=65 ≤ c∧c ≤ 90) (by simp only [Bool.and_eq_true,Bool.not_eq_true',Qcf,← Bool.not_eq_true,Qc6];omega) (Qcf c)
theorem Qj6 {c:Nat} (h:c < 128):Txt.islower ⟨#[c]⟩ = Vaarra.small c:=by
 show ((#[c]:Array Nat).any Unicode.isLower && !(#[c]:Array Nat).any fun c=>Unicode.isUpper c || Unicode.isTitle c) = _
 have e:∀ p:Nat→Bool,(#[c]:Array Nat).any p = p c:=fun p=>by simp
 rw [e,e,(Qdi c h).2.2.1,(Qdi c h).2.2.2.1,(Qdi c h).2.2.2.2,Bool.or_false,Qka]
theorem Qp1 {c:Nat} (h:c < 128):Txt.isupper ⟨#[c]⟩ = Vaarra.great c:=by
 show ((#[c]:Array Nat).any Unicode.isUpper && !(#[c]:Array Nat).any fun c=>Unicode.isLower c || Unicode.isTitle c) = _
 have e:∀ p:Nat→Bool,(#[c]:Array Nat).any p = p c:=fun p=>by simp
 rw [e,e,(Qdi c h).2.2.1,(Qdi c h).2.2.2.1,(Qdi c h).2.2.2.2,Bool.or_false,Qks]
theorem tw_at {f:Nat→Bool}:∀ {l:List Nat} {j:Nat},j < (l.takeWhile f).length→∃ c,l[j]? = some c∧f c = true
 | [],j,h=>by simp at h
 | c :: r,j,h=>by
  rw [List.takeWhile_cons] at h
  by_cases q:f c = true
  ·rw [if_pos q,List.length_cons] at h
   cases j with
   | zero=>exact ⟨c,rfl,q⟩
   | succ j=>exact tw_at (l:=r) (j:=j) (by omega)
  ·rw [if_neg q] at h;simp at h
theorem tw_end {f:Nat→Bool}:∀ {l:List Nat} {c:Nat},l[(l.takeWhile f).length]? = some c→f c = false
 | [],c,h=>by simp at h
 | d :: r,c,h=>by
  rw [List.takeWhile_cons] at h
  by_cases q:f d = true
  ·rw [if_pos q,List.length_cons] at h
   exact tw_end (l:=r) (by simpa using h)
  ·rw [if_neg q] at h
   have e:d = c:=by simpa using h
   rw [← e];simpa using q
theorem tw_take {f:Nat→Bool}:∀ (l:List Nat),l.take (l.takeWhile f).length = l.takeWhile f
 | []=>rfl
 | c :: r=>by
  rw [List.takeWhile_cons]
  by_cases q:f c = true
  ·rw [if_pos q,List.length_cons,List.take_succ_cons,tw_take r]
  ·rw [if_neg q];rfl
theorem Qji {src:List Nat} {p:Nat} {c:Nat} (h:src[p]? = some c):atI (ss src).cps.toList (p:Int) = some c:=Qcq h
theorem Qdd (l:List Nat) (p j:Nat):(l.drop p)[j]? = l[p + j]?:=List.getElem?_drop
structure Src (src:List Nat):Prop where
 len:src.length ≤ 2048
 asc:∀ c ∈ src,c < 128
theorem Src.at {src:List Nat} (h:Src src) {p c:Nat} (e:src[p]? = some c):c < 128:=h.asc c (List.mem_of_getElem? e)
theorem Src.line {src:List Nat} (h:Src src):(ss src).length ≤ sizeLine:=by rw [Qb1];exact Nat.le_trans h.len (by decide)
section
variable {X : Cx}
theorem Qed {x:Str} {v:V} {pos:Pos} (h:∃ u,X.mg x = some u∧RelV v u) (hg:Gl X x) (hd:(x == ("__debug__" : Str)) = false:=by decide):PE X (.Name x pos) (tC v):=by
 obtain ⟨u,h1,h2⟩:=h
 exact Qbp hg h1 h2 hd
theorem Qhf:MtR X "str.islower" (fun x xs H Q=>∃ a,x = .str a∧xs = []∧True∧Q (.bl (Txt.islower a)) H) :=
 mt0 (C:=fun _=>True) (g:=fun a=>.bl (Txt.islower a)) fun _ _ s _ _ h=>PySem.SC.islower (h _ s.toks rfl)
theorem Qng:MtR X "str.isupper" (fun x xs H Q=>∃ a,x = .str a∧xs = []∧True∧Q (.bl (Txt.isupper a)) H) :=
 mt0 (C:=fun _=>True) (g:=fun a=>.bl (Txt.isupper a)) fun _ _ s _ _ h=>PySem.SC.isupper (h _ s.toks rfl)
theorem Qri:MtR X "str.find" (fun x xs H Q=>∃ a b i,x = .str a∧xs = [.str b, .int i]∧Q (.int (Txt.find3 a b i)) H):=by
 intro pins s σ H x xs v us Q I rx rs h
 obtain ⟨a,b,i,rfl,rfl,h⟩:=h
 obtain ⟨t,rfl⟩:=rx
 cases rs with
 | cons r1 rs =>
  cases rs with
  | cons r2 rs =>
   cases rs
   obtain ⟨u,rfl⟩:=r1
   obtain ⟨u2,rfl⟩:=r2
   exact PySem.SC.find3 ⟨.int _,H,I.tok _,⟨_,rfl⟩,h⟩
end
section
variable {P : Program} {w : World} {K : PySem.W.Frag} {mg : Str → Option Value} {base : Heap} {a : Ad}
def spRun:Sp:=fun vs H Q _=>∃ (src:List Nat) (p:Nat),vs = [.str (ss src), .int p]∧Src src∧p ≤ src.length∧Q (.int ((p + ((src.drop p).takeWhile Vaarra.inner).length:Nat):Int)) H
theorem Qt8 (T:Txt K mg a):FnOk P w K mg base CX0 1 a.f_qbd a.fd_qbd ["source", "place"] spRun:=by
 refine T.F_qbd.ok Qon (fun vs H Q E h=>?_) (fun cdv A outer s H vs Q E hr h=>?_)
 ·obtain ⟨src,p,rfl,_⟩:=h
  rfl
 ·obtain ⟨src,p,rfl,hS,hp,k⟩:=h
  refine ⟨_,Qa2 (Qao (i:=2) Qon.nd rfl (Or.inl rfl) (pv 1)) (Qa2 (Qd5 PassesOwn.never
   ((pw_and (Qac Qnd (pv 2) (Qbf Qb5 (by rfl) T.z_len PySem.boot_len (Qa0 (pv 0) Qa5)) (Qap _)) (pw_and1 (Qcs (Qkd F.slot_str_isalnum F.type_str_isalnum Qnh (Qcd Qev (pv 0) (pv 2) (fun _ _=>rfl)))))).pt)
   (Qa4 (Qhb (i:=2) Qon.nd rfl (Or.inl rfl) Qai Qhh))) (Qa4 (Qae (pv 2)))),?_⟩
  refine ⟨_,rfl,?_⟩
  have tl:=tw_len Vaarra.inner (src.drop p)
  rw [List.length_drop] at tl
  refine ⟨fun m σ H'=>∃ j:Nat,m = src.length - (p + j)∧σ = [some (.str (ss src)),some (.int p),some (.int ((p + j:Nat):Int))]∧H' = H∧j ≤ ((src.drop p).takeWhile Vaarra.inner).length,⟨_,0,rfl,rfl,rfl,Nat.zero_le _⟩,?_⟩
  rintro m σ H' ⟨j,rfl,rfl,rfl,hj⟩
  refine ⟨_,rfl,_,rfl,_,rfl,by rw [Qb1];exact Nat.le_trans hS.len (by decide),_,_,rfl,rfl,_,rfl,?_⟩
  rw [Qb1]
  by_cases hlt:p + j < src.length
  ·rw [decide_eq_true (show ((p + j:Nat):Int) < (src.length:Int) by omega)]
   refine iteT ?_
   obtain ⟨c,hc⟩ : ∃ c,src[p + j]? = some c:=⟨_,List.getElem?_eq_getElem hlt⟩
   refine ⟨_,rfl,_,rfl,_,_,c,rfl,rfl,hS.line,Qji hc,⟨_,rfl⟩,_,rfl,rfl,trivial,_,rfl,?_⟩
   rw [Qp2 (hS.at hc)]
   cases hi:Vaarra.inner c
   case true =>
    refine iteT ?_
    have hj2:j < ((src.drop p).takeWhile Vaarra.inner).length:=by
     rcases Nat.lt_or_ge j ((src.drop p).takeWhile Vaarra.inner).length with q | q
     ·exact q
     ·have e:j = ((src.drop p).takeWhile Vaarra.inner).length:=by omega
      have:=tw_end (f:=Vaarra.inner) (l:=src.drop p) (c:=c) (by rw [← e,Qdd];exact hc)
      rw [hi] at this;cases this
    refine ⟨fun σ' H2=>∃ m',m' < src.length - (p + j)∧_,fun _ _ h=>h,⟨_,rfl,_,_,rfl,rfl,src.length - (p + (j + 1)),by omega,j + 1,rfl,?_,rfl,hj2⟩⟩
    show [some (V.str (ss src)),some (V.int p),some (V.int (((p + j:Nat):Int) + 1))] = _
    rw [show ((p + j:Nat):Int) + 1 = ((p + (j + 1):Nat):Int) by omega]
   case false =>
    refine iteF ?_
    have e:j = ((src.drop p).takeWhile Vaarra.inner).length:=by
     rcases Nat.lt_or_ge j ((src.drop p).takeWhile Vaarra.inner).length with q | q
     ·obtain ⟨d,hd,hd2⟩:=tw_at q
      rw [Qdd,hc] at hd
      cases hd
      rw [hi] at hd2;cases hd2
     ·omega
    exact ⟨_,rfl,by rw [e];exact k⟩
  ·rw [decide_eq_false (show ¬ ((p + j:Nat):Int) < (src.length:Int) by omega)]
   refine iteF (iteF ?_)
   have e:j = ((src.drop p).takeWhile Vaarra.inner).length:=by omega
   refine ⟨_,rfl,?_⟩
   rw [e];exact k
end
def MD (K:PySem.W.Frag) (a:Addr) (kvs:List (Key × V)):Prop:=∀ (P:Program) (w:World) (h:Heap),K.In h→(a == sysModules) = false∧∃ vs,KV kvs vs∧h.DictOf (Qbv P w) a vs
def Qv2 (K:PySem.W.Frag) (td ty tx:TE):TE:=fun σ H Q=>td σ H fun x H1=>∃ a kvs,x = .ref a∧MD K a kvs∧ty σ H1 fun y H2=>tx σ H2 fun z H3=>∃ k,y = kV k∧Q ((valV kvs k).getD z) H3
section
variable {X : Cx} {o e f : Expr} {apos cpos : Pos} {td ty tx : TE}
theorem Qr9 (ho:PE X o td) (he:PE X e ty) (hf:PE X f tx) (m:M2 X o "get" apos e f cpos):PE X (.Call (.Attribute o "get" apos) [e,f] [] cpos) (Qv2 X.K td ty tx):=by
 intro pins s σ H Q I h
 refine wpAny_Call_method m.base m.few m.line PySem.F.plainAttrs_dict PySem.F.slot_dict_get PySem.F.type_dict_get (thn (ho pins s σ H _ I h) fun u s1 ⟨x,H1,I1,rx,a,kvs,ex,d,q1⟩=>?_)
 subst ex
 obtain rfl:u = Value.ref a:=rx
 obtain ⟨hd,vs,rel,dd⟩:=d X.prog X.w _ I1.kIn
 refine ⟨dd.typeIs,fun b q=>?_,?_⟩
 ·cases q
  obtain ⟨ob,_,_,h1,h2,_⟩:=dd
  exact ⟨ob,h1,h2.2.1⟩
 rw [m.trees]
 refine Calls.callWith_builtin rfl (Calls.evalArgs_plain (Calls.spliced_cons (thn (he pins s1 σ H1 _ I1 q1) fun iv s2 ⟨y,H2,I2,ry,q2⟩ =>
  Calls.spliced_cons (thn (hf pins s2 σ H2 _ I2 q2) fun fv s3 ⟨z,H3,I3,rz,k,ey,q3⟩=>Calls.spliced_nil ?_))))
 subst ey
 obtain ⟨hd3,vs3,rel3,dd3⟩:=d X.prog X.w _ I3.kIn
 refine call_meetsIn PySem.F.slot_dict_get dd3.typeIs PySem.F.entry_dict_get (PySem.F.args_dict_get_3 _ _ _) (meets_dict_get_default (Qbv X.prog X.w) a (Qpn ry) hd3 fv) ⟨_,dd3.mapOf,?_⟩
 exact ⟨_,H3,I3.tok _,(rel3.val k).getD rz,q3⟩
end
section
variable {P : Program} {w : World} {K : PySem.W.Frag} {mg : Str → Option Value} {base : Heap} {a : Ad}
def sbt:List (Key × V):=[(.inl 9, .str (ss [32])),(.inl 10, .str (ss [10])),(.inl 13, .str (ss [32])),(.inl 32, .str (ss [32])),(.inl 35, .str (ss [35]))]
theorem Qtd (T:Txt K mg a):MD K a.p_SIGNS_BETWEEN_TOKENS sbt:=by
 intro P w h X
 refine ⟨T.y_SIGNS_BETWEEN_TOKENS,?_⟩
 obtain ⟨n,t0,u0,t1,u1,t2,u2,t3,u3,t4,u4,l⟩:=T.q_SIGNS_BETWEEN_TOKENS
 refine ⟨[(.inl 9, .str (ss [32]) u0),(.inl 10, .str (ss [10]) u1),(.inl 13, .str (ss [32]) u2),(.inl 32, .str (ss [32]) u3),(.inl 35, .str (ss [35]) u4)],
  .cons ⟨rfl,_,rfl⟩ (.cons ⟨rfl,_,rfl⟩ (.cons ⟨rfl,_,rfl⟩ (.cons ⟨rfl,_,rfl⟩ (.cons ⟨rfl,_,rfl⟩ .nil)))),_,_,_,X _ _ l,⟨rfl,rfl,rfl⟩,rfl,?_,?_,?_⟩
 ·intro e he
  have he:e ∈ ([⟨9, .int 9 t0, .str (ss [32]) u0⟩,⟨10, .int 10 t1, .str (ss [10]) u1⟩,⟨13, .int 13 t2, .str (ss [32]) u2⟩,⟨32, .int 32 t3, .str (ss [32]) u3⟩,⟨35, .int 35 t4, .str (ss [35]) u4⟩]:List DictEntry):=Array.mem_toList_iff.mpr he
  simp only [List.mem_cons,List.not_mem_nil,or_false] at he
  rcases he with rfl | rfl | rfl | rfl | rfl
  ·exact ⟨.inl 9,Qbr 9 t0,(show (9:Int) = hashInt 9 by decide +kernel)⟩
  ·exact ⟨.inl 10,Qbr 10 t1,(show (10:Int) = hashInt 10 by decide +kernel)⟩
  ·exact ⟨.inl 13,Qbr 13 t2,(show (13:Int) = hashInt 13 by decide +kernel)⟩
  ·exact ⟨.inl 32,Qbr 32 t3,(show (32:Int) = hashInt 32 by decide +kernel)⟩
  ·exact ⟨.inl 35,Qbr 35 t4,(show (35:Int) = hashInt 35 by decide +kernel)⟩
 ·exact .cons (Qbr 9 t0) rfl (.cons (Qbr 10 t1) rfl (.cons (Qbr 13 t2) rfl (.cons (Qbr 32 t3) rfl (.cons (Qbr 35 t4) rfl .nil))))
 ·show ([.inl 9, .inl 10, .inl 13, .inl 32, .inl 35]:List Key).Nodup
  decide
theorem Qoo (c:Nat):(valV sbt (.inl (c:Int))).getD (.str (ss [63])) = .str (ss [if c = 9 ∨ c = 13 ∨ c = 32 then 32 else if c = 10 then 10 else if c = 35 then 35 else 63]):=by
 have key:∀ i:Int,decide ((Sum.inl i:Key) = Sum.inl (c:Int)) = decide (i = (c:Int)):=fun i=>by
  by_cases e:i = (c:Int)
  ·rw [e];simp
  ·rw [decide_eq_false e,decide_eq_false fun q=>e (Sum.inl.inj q)]
 unfold valV sbt
 simp only [List.find?_cons,List.find?_nil,key]
 by_cases h9:c = 9
 ·subst h9;rfl
 by_cases h10:c = 10
 ·subst h10;rfl
 by_cases h13:c = 13
 ·subst h13;rfl
 by_cases h32:c = 32
 ·subst h32;rfl
 by_cases h35:c = 35
 ·subst h35;rfl
 rw [decide_eq_false (show ¬ (9:Int) = (c:Int) by omega),decide_eq_false (show ¬ (10:Int) = (c:Int) by omega),decide_eq_false (show ¬ (13:Int) = (c:Int) by omega),decide_eq_false (show ¬ (32:Int) = (c:Int) by omega),decide_eq_false (show ¬ (35:Int) = (c:Int) by omega)]
 rw [if_neg (by omega),if_neg h10,if_neg h35]
 rfl
def Qok:List Nat:=(List.range 86).map (· + 40)
theorem Qqz (c:Nat) (h1 : 40 ≤ c) (h2:c < 126):Qok[c - 40]? = some c:=by
 unfold Qok
 rw [List.getElem?_map,List.getElem?_range (by omega)]
 show some (c - 40 + 40) = some c
 rw [Nat.sub_add_cancel h1]
theorem Qpx (T:Txt K mg a):∃ u,mg "SIGNS" = some u∧RelV (.str (ss Qok)) u:=by
 obtain ⟨u,h1,h2⟩:=T.g_SIGNS
 exact ⟨u,h1,h2⟩
def Qvc:Sp:=fun vs H Q _=>∃ c:Nat,vs = [.int c]∧Q (.str (ss [sgn c])) H
theorem Qx7 (T:Txt K mg a):FnOk P w K mg base CX0 1 a.f_qbf a.fd_qbf ["byte"] Qvc:=by
 refine T.F_qbf.ok Qw7 (fun vs H Q E h=>?_) (fun cdv A outer s H vs Q E hr h=>?_)
 ·obtain ⟨c,rfl,_⟩:=h
  rfl
 ·obtain ⟨c,rfl,k⟩:=h
  refine ⟨_,Qa2 (Qb6 (Qr6 op_le Qnd (Qed T.g_FIRST_SIGN (by rfl)) (pv 0) (Qbl Qd0 (Qed T.g_FIRST_SIGN (by rfl)) (Qbf Qb5 (by rfl) T.z_len PySem.boot_len (Qa0 (Qed (Qpx T) (by rfl)) Qa5))))
   (Qa4 (Qae (Qcd Qev (Qed (Qpx T) (by rfl)) (Qbl Qt4 (pv 0) (Qed T.g_FIRST_SIGN (by rfl))) (fun _ _=>rfl)))) Qak)
   (Qa4 (Qae (Qr9 (Qbp (v:=.ref a.p_SIGNS_BETWEEN_TOKENS) (by rfl) T.g_SIGNS_BETWEEN_TOKENS rfl) (pv 0) (Qed T.g_NO_SIGN (by rfl)) ⟨rfl,rfl,rfl,rfl⟩))),?_⟩
  refine ⟨_,rfl,_,_,rfl,rfl,_,rfl,?_⟩
  have line:(ss Qok).length ≤ sizeLine:=by rw [Qb1];decide
  by_cases h1 : 40 ≤ c
  ·rw [decide_eq_true (show (40:Int) ≤ (c:Int) by omega)]
   refine iteT ⟨_,rfl,line,_,_,rfl,rfl,_,_,rfl,rfl,_,rfl,?_⟩
   have e86:(40:Int) + ((ss Qok).length:Int) = 126:=by rw [Qb1];decide
   rw [e86]
   by_cases h2:c < 126
   ·rw [decide_eq_true (show (c:Int) < 126 by omega)]
    refine iteT ⟨_,rfl,_,_,rfl,rfl,_,_,c,rfl,rfl,line,?_,?_⟩
    ·rw [show (c:Int) - 40 = ((c - 40:Nat):Int) by omega]
     exact Qji (Qqz c h1 h2)
    ·have e:sgn c = c:=by unfold sgn;rw [if_pos ⟨h1,h2⟩]
     rw [e] at k
     exact k
   ·rw [decide_eq_false (show ¬ (c:Int) < 126 by omega)]
    refine iteF ⟨_,sbt,rfl,Qtd T,_,rfl, .inl c,rfl,?_⟩
    have e:=Qoo c
    have e2:sgn c = (if c = 9 ∨ c = 13 ∨ c = 32 then 32 else if c = 10 then 10 else if c = 35 then 35 else 63):=by unfold sgn;rw [if_neg (by omega)]
    rw [e2,← e] at k
    exact k
  ·rw [decide_eq_false (show ¬ (40:Int) ≤ (c:Int) by omega)]
   refine iteF ⟨false,rfl,?_⟩
   refine iteF ⟨_,sbt,rfl,Qtd T,_,rfl, .inl c,rfl,?_⟩
   have e:=Qoo c
   have e2:sgn c = (if c = 9 ∨ c = 13 ∨ c = 32 then 32 else if c = 10 then 10 else if c = 35 then 35 else 63):=by unfold sgn;rw [if_neg (by omega)]
   rw [e2,← e] at k
   exact k
end
theorem Qjx (l:List Nat) (a b:Nat):(l.drop (min a l.length)).take (min b l.length - min a l.length) = (l.drop a).take (b - a):=by
 apply List.ext_getElem?
 intro i
 rw [List.getElem?_take,List.getElem?_take,List.getElem?_drop,List.getElem?_drop]
 by_cases h1:a ≤ l.length
 ·rw [Nat.min_eq_left h1]
  by_cases h2:i < b - a
  ·rw [if_pos h2]
   by_cases h3:a + i < l.length
   ·rw [if_pos (by omega)]
   ·rw [List.getElem?_eq_none (by omega)];split <;> rfl
  ·rw [if_neg h2,if_neg (by omega)]
 ·rw [Nat.min_eq_right (show l.length ≤ a by omega)]
  have e:∀ k,l[l.length + k]? = none:=fun k=>List.getElem?_eq_none (by omega)
  rw [List.getElem?_eq_none (show l.length ≤ a + i by omega),e]
  split <;> split <;> rfl
theorem Qhm (src:List Nat) (lo hi:Nat):cutS (ss src) (some (lo:Int)) (some (hi:Int)) = ss ((src.drop lo).take (hi - lo)):=by
 unfold cutS
 rw [HT.sIx_nat,HT.sIx_nat,Qb1,Qhw,Qjx]
theorem Qs6 (src:List Nat) (lo:Nat):cutS (ss src) (some (lo:Int)) none = ss (src.drop lo):=by
 unfold cutS
 rw [HT.sIx_nat,HT.sIx_none,Qb1,Qhw]
 have:=Qjx src lo src.length
 rw [Nat.min_self] at this
 rw [this,List.take_of_length_le (by rw [List.length_drop];omega)]
theorem Qtt (a b:List Nat):(ss a == ss b) = (a == b):=by
 by_cases e:a = b
 ·subst e;simp
 ·rw [beq_eq_false_iff_ne.mpr fun q=>e (Ql7 q),beq_eq_false_iff_ne.mpr e]
theorem Qce (L:List (List Nat)) (s:List Nat):inV (.str (ss s)) (L.map fun x=>V.str ⟨x.toArray⟩) = L.contains s:=by
 unfold inV
 induction L with
 | nil=>rfl
 | cons x r ih =>
  rw [List.map_cons,List.any_cons,ih,List.contains_cons]
  show ((ss x == ss s) || _) = _
  rw [Qtt,Bool.beq_comm]
theorem Qbd (L:List (List Nat)):(L.map fun x=>V.str ⟨x.toArray⟩).all Qia = true:=by
 rw [List.all_eq_true]
 intro v hv
 obtain ⟨x,_,rfl⟩:=List.mem_map.mp hv
 rfl
theorem Qti (a b:List Nat):decide (V.str (ss a) = V.str (ss b)) = decide (a = b):=by
 by_cases e:a = b
 ·subst e;simp
 ·rw [decide_eq_false e,decide_eq_false fun q=>e (Ql7 (V.str.inj q))]
theorem Qny (x:List Nat):PySem.NumText.digitsVal x = Vaarra.worth x:=by
 have h:(fun (acc c:Nat)=>acc * 10 + (c - 48)) = fun n c=>10 * n + (c - 48):=by funext n c;rw [Nat.mul_comm]
 show x.foldl (fun acc c=>acc * 10 + (c - 48)) 0 = x.foldl (fun n c=>10 * n + (c - 48)) 0
 rw [h]
theorem Qpt {x:List Nat} (h:∀ c ∈ x,Vaarra.digit c = true) (h1:x ≠ []) (h2:x.length ≤ 640):PySem.intText? (ss x) = some ((Vaarra.worth x:Nat):Int):=by
 rw [PySem.intText_digits (x:=ss x) (fun c hc=>(Qcp c).mp (h c hc)) h1 (by rw [Qb1];omega),Qhw,Qny]
theorem tw_all {f:Nat→Bool} (l:List Nat):∀ c ∈ l.takeWhile f,f c = true:=fun c hc=>List.all_eq_true.mp (List.all_takeWhile (l:=l) (p:=f)) c hc
def tf (k:Str) (i:Int) (x:Str):List (Str × V):=[("kind", .str k),("position", .int i),("spelling", .str x)]
def Qet:Vaarra.Tok→Str
 | .num _ => "number"
 | .small _ => "name"
 | .great _ => "word"
 | .mod _ => "modifier"
 | .sign s=>if Vaarra.funSigns.contains s then "primitive" else ss s
 | .fin => "end"
theorem Same.refl (H:Hp):Same H H:=fun _ _ h=>h
section
variable {P : Program} {w : World} {K : PySem.W.Frag} {mg : Str → Option Value} {base : Heap} {a : Ad}
def Qoa:Sp:=fun vs H Q _=>∃ x C dx k i y,vs = [.ref x, .str k, .int i, .str y]∧Cls K C∧Qah K C "kind" ∧ Qah K C "position" ∧ Qah K C "spelling" ∧ H x = some (.ins C dx []) ∧
 ∀ H',H' x = some (.ins C dx (tf k i y))→(∀ b,b ≠ x→H' b = H b)→Q .non H'
theorem Qja (T:Txt K mg a):FnOk P w K mg base CX0 1 a.f_qaq a.fd_qaq ["self", "kind", "position", "spelling"] (Qoa (K:=K)):=by
 refine T.F_qaq.ok Qwe (fun vs H Q E h=>?_) (fun cdv A outer s H vs Q E hr h=>?_)
 ·obtain ⟨x,C,dx,k,i,y,rfl,_⟩:=h
  rfl
 ·obtain ⟨x,C,dx,kk,i,y,rfl,c,n1,n2,n3,hx,k⟩:=h
  refine ⟨_,Qa2 (Qbu (pv 0) (pv 1) rfl) (Qa2 (Qbu (pv 0) (pv 2) rfl) (Qa4 (Qbu (pv 0) (pv 3) rfl))),?_⟩
  refine ⟨_,rfl,_,rfl,x,C,dx,_,rfl,hx,c,n1,(by show 0 < 1000;decide),?_⟩
  refine ⟨_,rfl,_,rfl,x,C,dx,_,rfl,Qa3,c,n2,(by show 1 < 1000;decide),?_⟩
  refine ⟨_,rfl,_,rfl,x,C,dx,_,rfl,Qa3,c,n3,?_,?_⟩
  ·have:=Qdb "position" (V.int i) [("kind",V.str kk)]
   exact Nat.lt_of_le_of_lt this (by show 2 < 1000;decide)
  ·refine k _ (by rw [Qa3];rfl) fun b hb=>by rw [Qa6 hb,Qa6 hb,Qa6 hb]
def Qk4 (C:Addr) (t:Str) (i:Int) (x:Str) (H:Hp) (Q:VK):Prop:=∀ H' y dx,H y = none→Same H H'→H' y = some (.ins C dx (tf t i x))→Q (.ref y) H'
theorem Qe3 (T:Txt K mg a) {k:Str} {i:Int} {y:Str} {H:Hp} {Q:VK} {E:XK} (h:Qk4 a.c_Token k i y H Q):∀ x dx,H x = none→H dx = none→dx ≠ x →
  Qoa (K:=K) (.ref x :: ([.str k, .int i, .str y] ++ [])) (upd (upd H dx (.own x)) x (.ins a.c_Token dx [])) (fun v H2=>v = .non∧Q (.ref x) H2) E:=by
 intro x dx hx hd ne
 refine ⟨x,a.c_Token,dx,k,i,y,rfl,T.cl_Token,T.n_Token_kind,T.n_Token_position,T.n_Token_spelling,Qa3,fun H' e1 e2=>⟨rfl,h H' x dx hx (fun b o e=>?_) e1⟩⟩
 rw [e2 b (Qa7 e hx),Qa6 (Qa7 e hx),Qa6 (Qa7 e hd)];exact e
def Qoc (C:Addr):Sp:=fun vs H Q _=>∃ (x:List Nat) (p:Int),vs = [.str (ss x), .int p]∧Qk4 C (Qet (.sign x)) p (ss x) H Q
theorem Qtb (T:Txt K mg a):FnOk P w K mg base CX0 3 a.f_qas a.fd_qas ["sign", "place"] (Qoc a.c_Token):=by
 refine T.F_qas.ok Qsv (fun vs H Q E h=>?_) (fun cdv A outer s H vs Q E hr h=>?_)
 ·obtain ⟨x,p,rfl,_⟩:=h
  rfl
 ·obtain ⟨x,p,rfl,k⟩:=h
  refine ⟨_,Qa2 (Qao (i:=2) Qsv.nd rfl (Or.inl rfl) (Qd7 (Qac Qbh (pv 0) (Qbp (v:=.ref a.p_PRIMITIVE_SIGNS) (by rfl) T.g_PRIMITIVE_SIGNS rfl) (by with_unfolding_all rfl)) Qad (pv 0)))
   (Qa4 (Qae (Qca T.mk_Token (Qja T) hr rfl T.g_Token T.B_qaq .nil Qam (Qa0 (pv 2) (Qa0 (pv 1) (Qa0 (pv 0) Qa5)))))),?_⟩
  refine ⟨_,rfl,_,_,rfl, .inr (T.q_PRIMITIVE_SIGNS H),rfl,Qbd _,_,rfl,?_⟩
  rw [if_neg Bool.false_ne_true,Qce]
  have e:Qet (.sign x) = if Vaarra.funSigns.contains x then ("primitive" : Str) else ss x:=rfl
  rw [e] at k
  show if Vaarra.funSigns.contains x = true then _ else _
  cases q:Vaarra.funSigns.contains x
  case true =>
   rw [q,if_pos rfl] at k
   refine iteT ⟨_,rfl,_,rfl,_,rfl,?_⟩
   exact Qe3 T k
  case false =>
   rw [q,if_neg Bool.false_ne_true] at k
   refine iteF ⟨_,rfl,_,rfl,_,rfl,_,rfl,?_⟩
   exact Qe3 T k
end
theorem Qaz {src:List Nat} {p c:Nat} (h:src[p]? = some c):src.drop p = c :: src.drop (p + 1):=by
 obtain ⟨lt,e⟩:=List.getElem?_eq_some_iff.mp h
 rw [← e];exact (List.drop_eq_getElem_cons lt)
theorem Qcu (x:List Nat):Vaarra.isNumber x = true ↔ x.length ≤ 19∧¬ (x.head? = some 48∧1 < x.length)∧Vaarra.worth x ≤ Vaarra.BOUND:=by
 unfold Vaarra.isNumber
 rw [Bool.and_eq_true,Bool.and_eq_true,decide_eq_true_eq,decide_eq_true_eq,Bool.not_eq_true',Bool.and_eq_false_iff,beq_eq_false_iff_ne,decide_eq_false_iff_not,and_assoc]
 constructor
 ·rintro ⟨h1,h2,h3⟩
  exact ⟨h1,fun ⟨h4,h5⟩=>h2.elim (fun q=>q h4) (fun q=>q h5),h3⟩
 ·rintro ⟨h1,h2,h3⟩
  refine ⟨h1,?_,h3⟩
  by_cases q:x.head? = some 48
  ·exact .inr fun q2=>h2 ⟨q,q2⟩
  ·exact .inl q
theorem Qy8 {x:List Nat} (h:x.head? = some 48) (hl : ¬ 1 < x.length):x = [48]:=by
 cases x with
 | nil=>cases h
 | cons a r =>
  cases r with
  | nil =>
   have e:a = 48:=by simpa using h
   rw [e]
  | cons b r=>simp at hl
theorem Qtn {src:List Nat} {p c:Nat} (hc:src[p]? = some c) (hd:Vaarra.digit c = true ∨ (c = 95∧∃ d,src[p + 1]? = some d∧Vaarra.digit d = true)) {b:Nat} (hb:b = if c = 95 then p + 1 else p) {x:List Nat} (hx:x = (src.drop b).takeWhile Vaarra.digit) :
  Qd2 (src.drop p) = if x.length ≤ 19∧Vaarra.worth x ≤ Vaarra.BOUND∧¬ (x.head? = some 48∧(1 < x.length ∨ c = 95)) then some (.num (if c = 95 then -((Vaarra.worth x:Nat):Int) else (Vaarra.worth x:Nat)),(src.drop p).take (b + x.length - p)) else none:=by
 rw [Qaz hc,Qbc]
 unfold Qch
 by_cases h95:c = 95
 ·rw [if_pos h95] at hb
  subst hb
  obtain ⟨d,hd1,hd2⟩ : ∃ d,src[p + 1]? = some d∧Vaarra.digit d = true:=hd.elim (fun q=>by rw [h95] at q;cases q) (·.2)
  have e1:(src.drop (p + 1)).head? = some d:=by rw [Qaz hd1];rfl
  rw [if_neg (by rw [h95];decide),if_pos ⟨h95,by rw [e1];exact hd2⟩,← hx]
  have tl:(c :: src.drop (p + 1)).take (p + 1 + x.length - p) = 95 :: x:=by
   rw [show p + 1 + x.length - p = x.length + 1 by omega,List.take_succ_cons,h95]
   congr 1
   rw [hx];exact tw_take _
  rw [tl]
  have iff:(Vaarra.isNumber x && x != [48]) = true ↔ x.length ≤ 19∧Vaarra.worth x ≤ Vaarra.BOUND∧¬ (x.head? = some 48∧(1 < x.length ∨ c = 95)):=by
   rw [Bool.and_eq_true,Qcu,bne_iff_ne]
   constructor
   ·rintro ⟨⟨h1,h2,h3⟩,h4⟩
    exact ⟨h1,h3,fun ⟨q1,_⟩=>h4 (Qy8 q1 fun q=>h2 ⟨q1,q⟩)⟩
   ·rintro ⟨h1,h2,h3⟩
    exact ⟨⟨h1,fun ⟨q1,_⟩=>h3 ⟨q1, .inr h95⟩,h2⟩,fun q=>h3 ⟨by rw [q];rfl, .inr h95⟩⟩
  by_cases q:(Vaarra.isNumber x && x != [48]) = true
  ·rw [if_pos q,if_pos (iff.mp q),if_pos h95]
  ·rw [if_neg q,if_neg fun z=>q (iff.mpr z)]
 ·rw [if_neg h95] at hb
  subst hb
  have hdc:Vaarra.digit c = true:=hd.elim id fun q=>absurd q.1 h95
  have hx2:x = (c :: src.drop (b + 1)).takeWhile Vaarra.digit:=by rw [hx,Qaz hc]
  rw [if_pos hdc,← hx2]
  have tl:(c :: src.drop (b + 1)).take (b + x.length - b) = x:=by
   rw [show b + x.length - b = x.length by omega,← Qaz hc,hx];exact tw_take _
  rw [tl]
  have iff:Vaarra.isNumber x = true ↔ x.length ≤ 19∧Vaarra.worth x ≤ Vaarra.BOUND∧¬ (x.head? = some 48∧(1 < x.length ∨ c = 95)):=by
   rw [Qcu]
   constructor
   ·rintro ⟨h1,h2,h3⟩
    exact ⟨h1,h3,fun ⟨q1,q2⟩=>h2 ⟨q1,q2.elim id fun q=>absurd q h95⟩⟩
   ·rintro ⟨h1,h2,h3⟩
    exact ⟨h1,fun ⟨q1,q2⟩=>h3 ⟨q1, .inl q2⟩,h2⟩
  by_cases q:Vaarra.isNumber x = true
  ·rw [if_pos q,if_pos (iff.mp q),if_neg h95]
  ·rw [if_neg q,if_neg fun z=>q (iff.mpr z)]
def Qdy (K:PySem.W.Frag) (R C:Addr) (src:List Nat) (p:Nat) (H:Hp) (Q:VK) (E:XK):Prop:=match Qd2 (src.drop p) with
 | some (t,x)=>Qk4 C (Qet t) p (ss x) H Q
 | none=>∀ cls d H',EW K R 2 p cls d H'→E cls d H'
theorem Qdy.some {K:PySem.W.Frag} {R C:Addr} {src:List Nat} {p:Nat} {H:Hp} {Q:VK} {E:XK} {t:Vaarra.Tok} {x:List Nat} (h:Qdy K R C src p H Q E) (e:Qd2 (src.drop p) = .some (t,x)):Qk4 C (Qet t) p (ss x) H Q:=by
 unfold Qdy at h;rw [e] at h;exact h
theorem Qdy.none {K:PySem.W.Frag} {R C:Addr} {src:List Nat} {p:Nat} {H:Hp} {Q:VK} {E:XK} (h:Qdy K R C src p H Q E) (e:Qd2 (src.drop p) = .none):∀ cls d H',EW K R 2 p cls d H'→E cls d H':=by
 unfold Qdy at h;rw [e] at h;exact h
theorem Qqh:bootBuiltins "int" = some (.type "int"):=by decide +kernel
theorem Qid (c d:Nat):decide (V.str ⟨#[c]⟩ = V.str (ss [d])) = decide (c = d):=by
 have e:=Qti [c] [d]
 rw [show decide ([c] = [d]) = decide (c = d) by simp] at e
 exact e
theorem Qlw (c:Nat):decide (V.str ⟨#[c]⟩ = V.str ("_" : Str)) = decide (c = 95):=Qid c 95
theorem dec_0 (c:Nat):decide (V.str ⟨#[c]⟩ = V.str ("0" : Str)) = decide (c = 48):=Qid c 48
theorem Qrt {σ : L2.St} {H:Hp} {F:VK} {p b c:Nat} (h1 : σ[1]? = some (some (.int p))) (h2 : σ[2]? = some (some (.bl (decide (c = 95))))) (hb:b = if c = 95 then p + 1 else p) (h:F (.int b) H) :
  tIf (tB (tVar 2)) (tOp (rI0 fun i j=>V.int (i + j)) (tVar 1) (tC (V.int 1))) (tVar 1) σ H F:=by
 refine ⟨_,h2,_,rfl,?_⟩
 by_cases q:c = 95
 ·rw [if_pos q] at hb
  rw [decide_eq_true q]
  refine iteT ⟨_,h1,_,_,rfl,rfl,?_⟩
  show F (.int ((p:Int) + 1)) H
  rw [show (p:Int) + 1 = ((p + 1:Nat):Int) by omega,← hb];exact h
 ·rw [if_neg q] at hb
  rw [decide_eq_false q]
  refine iteF ⟨_,h1,?_⟩
  rw [← hb];exact h
theorem Qr0 {α : Type} {l:List α} {i:Nat} {v : α} (h:l[i]? = some v):l.set i v = l:=by
 apply List.ext_getElem?
 intro j
 by_cases e:i = j
 ·subst e
  rw [List.getElem?_set_self (List.getElem?_eq_some_iff.mp h).1,h]
 ·rw [List.getElem?_set_ne e]
theorem scan {src:List Nat} {b i:Nat} {f:Nat→Bool} {g:Str→Bool} {D:Ends} {σ : L2.St} {H:Hp} (hS:Src src) (hg:∀ c,c < 128→g ⟨#[c]⟩ = f c) (h0 : σ[0]? = some (some (.str (ss src)))) (hi : σ[i]? = some (some (.int b))) (ne:i ≠ 0) (hb:b ≤ src.length)
  (after:D.nx (σ.set i (some (.int ((b + ((src.drop b).takeWhile f).length:Nat):Int)))) H) :
  Qsi (tAnd (Qg0 (tOp (rI0 fun i j=>V.bl (decide (i < j))) (tVar i) (tCB (fun xs H Q=>∃ z,xs = [V.str z]∧z.length ≤ sizeLine∧Q (V.int z.length) H) (Qec (tVar 0) tNil)))) (tB (tM0 (fun x xs H Q=>∃ a,x = V.str a∧xs = []∧True∧Q (V.bl (g a)) H) (tOp rIxS (tVar 0) (tVar i)))))
   (tAug i (tC (V.int 1)) (ipI fun i j=>i + j)) D σ H:=by
 have il:i < σ.length:=(List.getElem?_eq_some_iff.mp hi).1
 have tl:=tw_len f (src.drop b)
 rw [List.length_drop] at tl
 refine ⟨fun m σ' H'=>∃ j:Nat,m = src.length - (b + j)∧σ' = σ.set i (some (.int ((b + j:Nat):Int)))∧H' = H∧j ≤ ((src.drop b).takeWhile f).length,⟨_,0,rfl,(Qr0 hi).symm,rfl,Nat.zero_le _⟩,?_⟩
 rintro m σ' H' ⟨j,rfl,rfl,rfl,hj⟩
 have s0:(σ.set i (some (.int ((b + j:Nat):Int))))[0]? = some (some (.str (ss src))):=by rw [List.getElem?_set_ne ne];exact h0
 have si:(σ.set i (some (V.int ((b + j:Nat):Int))))[i]? = some (some (.int ((b + j:Nat):Int))):=List.getElem?_set_self il
 refine ⟨_,si,_,s0,_,rfl,hS.line,_,_,rfl,rfl,_,rfl,?_⟩
 rw [Qb1]
 by_cases hlt:b + j < src.length
 ·rw [decide_eq_true (show ((b + j:Nat):Int) < (src.length:Int) by omega)]
  refine iteT ?_
  obtain ⟨e,he⟩ : ∃ e,src[b + j]? = some e:=⟨_,List.getElem?_eq_getElem hlt⟩
  refine ⟨_,s0,_,si,_,_,e,rfl,rfl,hS.line,Qji he,⟨_,rfl⟩,_,rfl,rfl,trivial,_,rfl,?_⟩
  rw [hg e (hS.at he)]
  cases hq:f e
  case true =>
   refine iteT ?_
   have hj2:j < ((src.drop b).takeWhile f).length:=by
    rcases Nat.lt_or_ge j ((src.drop b).takeWhile f).length with q | q
    ·exact q
    ·have ej:j = ((src.drop b).takeWhile f).length:=by omega
     have:=tw_end (f:=f) (l:=src.drop b) (c:=e) (by rw [← ej,Qdd];exact he)
     rw [hq] at this;cases this
   refine ⟨fun σ' H2=>∃ m',m' < src.length - (b + j)∧_,fun _ _ h=>h,⟨_,si,_,_,rfl,rfl,src.length - (b + (j + 1)),by omega,j + 1,rfl,?_,rfl,hj2⟩⟩
   rw [List.set_set]
   show σ.set i (some (V.int (((b + j:Nat):Int) + 1))) = _
   rw [show ((b + j:Nat):Int) + 1 = ((b + (j + 1):Nat):Int) by omega]
  case false =>
   refine iteF ?_
   have ej:j = ((src.drop b).takeWhile f).length:=by
    rcases Nat.lt_or_ge j ((src.drop b).takeWhile f).length with q | q
    ·obtain ⟨d,hd,hd2⟩:=tw_at (f:=f) (l:=src.drop b) (j:=j) q
     rw [Qdd,he] at hd
     cases hd
     rw [hq] at hd2;cases hd2
    ·omega
   rw [ej];exact after
 ·rw [decide_eq_false (show ¬ ((b + j:Nat):Int) < (src.length:Int) by omega)]
  refine iteF (iteF ?_)
  rw [show j = ((src.drop b).takeWhile f).length by omega];exact after
section
variable {P : Program} {w : World} {K : PySem.W.Frag} {mg : Str → Option Value} {base : Heap} {a : Ad}
def spNum (K:PySem.W.Frag) (a:Ad):Sp:=fun vs H Q E=>∃ (src:List Nat) (p c:Nat),vs = [.str (ss src), .int p]∧Src src∧src[p]? = some c∧(Vaarra.digit c = true ∨ (c = 95∧∃ d,src[p + 1]? = some d∧Vaarra.digit d = true))∧Qdy K a.c_Refused a.c_Token src p H Q E
theorem Qxd (T:Txt K mg a):FnOk P w K mg base (CX1 P w) 4 a.f_qax a.fd_qax ["source", "place"] (spNum K a):=by
 refine T.F_qax.okX Qst (fun vs H Q E h=>?_) (fun cdv A outer s H vs Q E hr h=>?_)
 ·obtain ⟨src,p,c,rfl,_⟩:=h
  rfl
 ·obtain ⟨src,p,c,rfl,hS,hc,hd,k⟩:=h
  have nd:=Qst.nd
  refine ⟨_,Qa2 (Qao (i:=2) nd rfl (Or.inl rfl) (Qg5 Qc1 (Qcd Qev (pv 0) (pv 1) (fun _ _=>rfl)) Qad (Qap _)))
   (Qa2 (Qao (i:=3) nd rfl (Or.inl rfl) (Qd7 (Qcs (pv 2)) (Qbl Qd0 (pv 1) Qai) (pv 1)))
   (Qa2 (Qao (i:=4) nd rfl (Or.inl rfl) (pv 3))
   (Qa2 (Qd5 own1 ((pw_and (Qac Qnd (pv 4) (Qbf Qb5 (by rfl) T.z_len PySem.boot_len (Qa0 (pv 0) Qa5)) (Qap _)) (pw_and1 (Qcs (Qkd F.slot_str_isdigit F.type_str_isdigit Qf5 (Qcd Qev (pv 0) (pv 4) (fun _ _=>rfl)))))).pt)
    (Qa4 (Qhb (i:=4) nd rfl (Or.inl rfl) Qai Qhh)))
   (Qa2 (Qao (i:=5) nd rfl (Or.inl rfl) (Qct Qh9 (pv 0) (Qc9 (pv 3)) (Qc9 (pv 4))))
   (Qa2 (Qb6 ((pw_or (Qac Qg8 (Qbf Qb5 (by rfl) T.z_len PySem.boot_len (Qa0 (pv 5) Qa5)) (Qed T.g_MOST_DIGITS (by rfl)) (Qap _)) (pw_or1 (Qac Qg8 (Qcz Qdx (by rfl) T.z_int Qqh (Qa0 (pv 5) Qa5)) (Qed T.g_LARGEST_NUMBER (by rfl)) (Qap _)))).pt)
    (Qa4 (Qc8 rfl Qc7 T.em_TokenFault (Qp3 T) hr (by rfl) T.g_TokenFault T.B_qw (pv 1))) Qak)
   (Qa2 (Qb6 ((pw_and (Qac Qc1 (Qcd Qev (pv 5) Qai (fun _ _=>rfl)) Qad (Qap _)) (pw_and1 ((pw_or (Qac Qg8 (Qbf Qb5 (by rfl) T.z_len PySem.boot_len (Qa0 (pv 5) Qa5)) Qai (Qap _)) (pw_or1 (Qcs (pv 2)))).pt))).pt)
    (Qa4 (Qc8 rfl Qc7 T.em_TokenFault (Qp3 T) hr (by rfl) T.g_TokenFault T.B_qw (pv 1))) Qak)
   (Qa4 (Qae (Qca T.mk_Token (Qja T) (hr.mono (by decide)) rfl T.g_Token T.B_qaq .nil Qam (Qa0 Qad (Qa0 (pv 1) (Qa0 (Qct Qh9 (pv 0) (Qc9 (pv 1)) (Qc9 (pv 4))) Qa5)))))))))))),?_⟩
  refine ⟨_,rfl,_,rfl,_,_,c,rfl,rfl,hS.line,Qji hc,rfl,?_⟩
  rw [Qlw]
  obtain ⟨b,hb⟩ : ∃ b,b = if c = 95 then p + 1 else p:=⟨_,rfl⟩
  obtain ⟨x,hx⟩ : ∃ x,x = (src.drop b).takeWhile Vaarra.digit:=⟨_,rfl⟩
  have key:=Qtn hc hd hb hx
  have hb1:b ≤ p + 1∧p ≤ b:=by rw [hb];split <;> omega
  have hbd:∃ d,src[b]? = some d∧Vaarra.digit d = true:=by
   rw [hb]
   by_cases q:c = 95
   ·rw [if_pos q];exact hd.elim (fun z=>by rw [q] at z;cases z) (·.2)
   ·rw [if_neg q];exact ⟨c,hc,hd.elim id fun z=>absurd z.1 q⟩
  obtain ⟨x0,hx0,hx0d⟩:=hbd
  have hxc:∃ r,x = x0 :: r:=by rw [hx,Qaz hx0,List.takeWhile_cons,if_pos hx0d];exact ⟨_,rfl⟩
  obtain ⟨xr,hxr⟩:=hxc
  have bl:b + x.length ≤ src.length:=by
   have:=tw_len Vaarra.digit (src.drop b)
   rw [List.length_drop,← hx] at this
   have:=(List.getElem?_eq_some_iff.mp hx0).1
   omega
  refine Qrt rfl rfl hb ?_
  refine ⟨_,rfl,?_⟩
  refine scan (f:=Vaarra.digit) hS (fun c h=>Qg9 h) rfl rfl (by decide) (by omega) ?_
  rw [← hx]
  refine ⟨_,rfl,_,rfl,_,rfl,_,rfl,_,rfl,_,rfl,hS.line,?_⟩
  rw [Qhm,show b + x.length - b = x.length by omega,show (src.drop b).take x.length = x by rw [hx];exact tw_take _]
  have xl:(ss x).length ≤ sizeLine:=by rw [Qb1];exact Nat.le_trans (show x.length ≤ 2048 by have:=hS.len;omega) (by decide)
  refine ⟨_,rfl,_,rfl,xl,_,_,rfl,rfl,_,rfl,?_⟩
  rw [Qb1]
  by_cases h19 : 19 < x.length
  ·rw [decide_eq_true (show (19:Int) < (x.length:Int) by omega)]
   refine iteT (iteT ⟨_,rfl,?_⟩)
   exact Qbk (Qbg T) (k.none (by rw [key,if_neg (by omega)]))
  rw [decide_eq_false (show ¬ (19:Int) < (x.length:Int) by omega)]
  have hxd:∀ c ∈ x,Vaarra.digit c = true:=by rw [hx];exact tw_all _
  refine iteF ⟨_,rfl,_,_,rfl,Qpt hxd (by rw [hxr];simp) (by omega),by rw [Qb1];omega,_,_,rfl,rfl,_,rfl,?_⟩
  by_cases hB : 1000000000000000000 < Vaarra.worth x
  ·rw [decide_eq_true (show (1000000000000000000:Int) < ((Vaarra.worth x:Nat):Int) by omega)]
   refine iteT ⟨_,rfl,?_⟩
   exact Qbk (Qbg T) (k.none (by rw [key,if_neg (by unfold Vaarra.BOUND;omega)]))
  rw [decide_eq_false (show ¬ (1000000000000000000:Int) < ((Vaarra.worth x:Nat):Int) by omega)]
  refine iteF ?_
  refine ⟨_,rfl,_,_,x0,rfl,rfl,xl,(by rw [Qhw,hxr];exact Qcq (j:=0) rfl),rfl,_,rfl,?_⟩
  rw [dec_0]
  have hd0:x.head? = some x0:=by rw [hxr];rfl
  have last : ¬ (x0 = 48∧(1 < x.length ∨ c = 95))→Qk4 a.c_Token "number" p (ss ((src.drop p).take (b + x.length - p))) H Q:=fun hn=>by
   have e:=key
   rw [if_pos ⟨by omega,by unfold Vaarra.BOUND;omega,fun ⟨q1,q2⟩=>hn ⟨by rw [hd0] at q1;exact Option.some.inj q1,q2⟩⟩] at e
   exact k.some e
  have mk : ¬ (x0 = 48∧(1 < x.length ∨ c = 95))→_:=fun hn=>Qe3 T (E:=E0) (last hn)
  by_cases h48:x0 = 48
  ·rw [decide_eq_true h48]
   refine iteT ⟨_,rfl,_,rfl,xl,_,_,rfl,rfl,_,rfl,?_⟩
   rw [Qb1]
   by_cases h1 : 1 < x.length
   ·rw [decide_eq_true (show (1:Int) < (x.length:Int) by omega)]
    refine iteT (iteT ⟨_,rfl,?_⟩)
    exact Qbk (Qbg T) (k.none (by rw [key,if_neg fun q=>q.2.2 ⟨by rw [hd0,h48], .inl h1⟩]))
   ·rw [decide_eq_false (show ¬ (1:Int) < (x.length:Int) by omega)]
    refine iteF ⟨_,rfl,_,rfl,?_⟩
    by_cases h95:c = 95
    ·rw [decide_eq_true h95]
     refine iteT ⟨_,rfl,?_⟩
     exact Qbk (Qbg T) (k.none (by rw [key,if_neg fun q=>q.2.2 ⟨by rw [hd0,h48], .inr h95⟩]))
    ·rw [decide_eq_false h95]
     refine iteF ⟨_,rfl,_,rfl,_,rfl,_,rfl,_,rfl,_,rfl,_,rfl,hS.line,?_⟩
     rw [Qhm]
     exact mk fun q=>q.2.elim h1 h95
  ·rw [decide_eq_false h48]
   refine iteF (iteF ⟨_,rfl,_,rfl,_,rfl,_,rfl,_,rfl,_,rfl,_,rfl,hS.line,?_⟩)
   rw [Qhm]
   exact mk fun q=>h48 q.1
end
theorem Qjd {c:Nat} (h:(Vaarra.small c || Vaarra.great c) = true):Vaarra.digit c = false∧c ≠ 95∧Vaarra.inner c = true∧c ≠ 58:=by
 rw [Bool.or_eq_true,Qc6,Qcf] at h
 refine ⟨?_,by omega,?_,by omega⟩
 ·rw [← Bool.not_eq_true,Qcp];omega
 ·rw [Qjl];omega
theorem Qqv {src:List Nat} {p c:Nat} (hc:src[p]? = some c) (hl:(Vaarra.small c || Vaarra.great c) = true) :
  Qd2 (src.drop p) = if 16 < ((src.drop p).takeWhile Vaarra.inner).length then none else some (if Vaarra.small c then .small ((src.drop p).takeWhile Vaarra.inner) else .great ((src.drop p).takeWhile Vaarra.inner),(src.drop p).takeWhile Vaarra.inner):=by
 obtain ⟨h1,h2,_⟩:=Qjd hl
 rw [Qaz hc,Qbc]
 unfold Qch
 rw [if_neg (by rw [h1];exact Bool.false_ne_true),if_neg fun q=>h2 q.1,if_pos hl]
theorem Qto {src:List Nat} {p d:Nat} (hc:src[p]? = some 58) (hd:src[p + 1]? = some d) (hs:Vaarra.small d = true) :
  Qd2 (src.drop p) = if Vaarra.modWords.contains ((src.drop (p + 1)).takeWhile Vaarra.inner) then some (.mod ((src.drop (p + 1)).takeWhile Vaarra.inner),58 :: (src.drop (p + 1)).takeWhile Vaarra.inner) else none:=by
 rw [Qaz hc,Qbc]
 unfold Qch
 rw [if_neg (by decide),if_neg fun q=>absurd q.1 (by decide),if_neg (by decide),if_pos ⟨rfl,by rw [Qaz hd];exact hs⟩]
theorem Qrk (x:List Nat):([[58,102,111,108,100],[58,115,99,97,110],[58,116,97,98,108,101],[58,115,119,97,112],[58,97,116]]:List (List Nat)).contains (58 :: x) = Vaarra.modWords.contains x:=by
 show ([58 :: Vaarra.mFold,58 :: Vaarra.mScan,58 :: Vaarra.mTable,58 :: Vaarra.mSwap,58 :: Vaarra.mAt]:List (List Nat)).contains (58 :: x) = ([Vaarra.mFold,Vaarra.mScan,Vaarra.mTable,Vaarra.mSwap,Vaarra.mAt]:List (List Nat)).contains x
 simp only [List.contains_cons,List.contains_nil,List.cons_beq_cons,beq_self_eq_true,Bool.true_and]
section
variable {P : Program} {w : World} {K : PySem.W.Frag} {mg : Str → Option Value} {base : Heap} {a : Ad}
def Qvi (K:PySem.W.Frag) (a:Ad):Sp:=fun vs H Q E=>∃ (src:List Nat) (p c:Nat) (kd:Str),vs = [.str (ss src), .int p, .str kd]∧Src src∧src[p]? = some c∧(Vaarra.small c || Vaarra.great c) = true∧kd = (if Vaarra.small c then "name" else "word")∧Qdy K a.c_Refused a.c_Token src p H Q E
theorem Qt7 (T:Txt K mg a):FnOk P w K mg base (CX1 P w) 4 a.f_qbh a.fd_qbh ["source", "place", "kind"] (Qvi K a):=by
 refine T.F_qbh.okX Qsn (fun vs H Q E h=>?_) (fun cdv A outer s H vs Q E hr h=>?_)
 ·obtain ⟨src,p,c,kd,rfl,_⟩:=h
  rfl
 ·obtain ⟨src,p,c,kd,rfl,hS,hc,hl,hk,k⟩:=h
  have nd:=Qsn.nd
  refine ⟨_,Qa2 (Qao (i:=3) nd rfl (Or.inl rfl) (Qag (Qt8 T) (hr.mono (by decide)) rfl T.g_qbd T.F_qbd.kp T.B_qbd .nil Qam (Qa0 (pv 0) (Qa0 (pv 1) Qa5))))
   (Qa2 (Qb6 (Qac Qg8 (Qbl Qt4 (pv 3) (pv 1)) (Qed T.g_LONGEST_NAME (by rfl)) (Qap _)) (Qa4 (Qc8 rfl Qc7 T.em_TokenFault (Qp3 T) hr (by rfl) T.g_TokenFault T.B_qw (pv 1))) Qak)
   (Qa4 (Qae (Qca T.mk_Token (Qja T) (hr.mono (by decide)) rfl T.g_Token T.B_qaq .nil Qam (Qa0 (pv 2) (Qa0 (pv 1) (Qa0 (Qct Qh9 (pv 0) (Qc9 (pv 1)) (Qc9 (pv 3))) Qa5))))))),?_⟩
  have lp:=(List.getElem?_eq_some_iff.mp hc).1
  refine ⟨_,rfl,_,rfl,src,p,rfl,hS,by omega,?_⟩
  have key:=Qqv hc hl
  obtain ⟨x,hx⟩ : ∃ x,x = (src.drop p).takeWhile Vaarra.inner:=⟨_,rfl⟩
  rw [← hx] at key
  rw [← hx]
  refine ⟨_,rfl,_,rfl,_,_,rfl,rfl,_,_,rfl,rfl,_,rfl,?_⟩
  rw [show ((p + x.length:Nat):Int) - (p:Int) = (x.length:Int) by omega]
  by_cases h16 : 16 < x.length
  ·rw [decide_eq_true (show (16:Int) < (x.length:Int) by omega)]
   refine iteT ⟨_,rfl,?_⟩
   exact Qbk (Qbg T) (k.none (by rw [key,if_pos h16]))
  ·rw [decide_eq_false (show ¬ (16:Int) < (x.length:Int) by omega)]
   refine iteF ⟨_,rfl,_,rfl,_,rfl,_,rfl,_,rfl,_,rfl,_,rfl,_,rfl,hS.line,?_⟩
   rw [Qhm,show p + x.length - p = x.length by omega,show (src.drop p).take x.length = x by rw [hx];exact tw_take _]
   rw [if_neg h16] at key
   have kk:=k.some key
   refine Qe3 T (E:=E0) ?_
   have e:Qet (if Vaarra.small c then .small x else .great x) = kd:=by rw [hk];cases Vaarra.small c <;> rfl
   rw [e] at kk
   exact kk
def spMod (K:PySem.W.Frag) (a:Ad):Sp:=fun vs H Q E=>∃ (src:List Nat) (p d:Nat),vs = [.str (ss src), .int p]∧Src src∧src[p]? = some 58∧src[p + 1]? = some d∧Vaarra.small d = true∧Qdy K a.c_Refused a.c_Token src p H Q E
theorem Qxi (T:Txt K mg a):FnOk P w K mg base (CX1 P w) 4 a.f_qam a.fd_qam ["source", "place"] (spMod K a):=by
 refine T.F_qam.okX Qsx (fun vs H Q E h=>?_) (fun cdv A outer s H vs Q E hr h=>?_)
 ·obtain ⟨src,p,d,rfl,_⟩:=h
  rfl
 ·obtain ⟨src,p,d,rfl,hS,hc,hd,hs,k⟩:=h
  have nd:=Qsx.nd
  refine ⟨_,Qa2 (Qao (i:=2) nd rfl (Or.inl rfl) (Qct Qh9 (pv 0) (Qc9 (pv 1)) (Qc9 (Qag (Qt8 T) (hr.mono (by decide)) rfl T.g_qbd T.F_qbd.kp T.B_qbd .nil Qam (Qa0 (pv 0) (Qa0 (Qbl Qd0 (pv 1) Qai) Qa5))))))
   (Qa2 (Qb6 (Qac Qdr (pv 2) (Qbp (v:=.ref a.p_MODIFIERS) (by rfl) T.g_MODIFIERS rfl) (by with_unfolding_all rfl)) (Qa4 (Qc8 rfl Qc7 T.em_TokenFault (Qp3 T) hr (by rfl) T.g_TokenFault T.B_qw (pv 1))) Qak)
   (Qa4 (Qae (Qca T.mk_Token (Qja T) (hr.mono (by decide)) rfl T.g_Token T.B_qaq .nil Qam (Qa0 Qad (Qa0 (pv 1) (Qa0 (pv 2) Qa5))))))),?_⟩
  have lp:=(List.getElem?_eq_some_iff.mp hd).1
  refine ⟨_,rfl,_,rfl,_,rfl,_,rfl,_,rfl,_,_,rfl,rfl,src,p + 1,(by show [_,V.int ((p:Int) + 1)] = _;rw [show (p:Int) + 1 = ((p + 1:Nat):Int) by omega]),hS,by omega,_,rfl,_,rfl,hS.line,?_⟩
  have key:=Qto hc hd hs
  obtain ⟨x,hx⟩ : ∃ x,x = (src.drop (p + 1)).takeWhile Vaarra.inner:=⟨_,rfl⟩
  rw [← hx] at key
  rw [← hx,Qhm,show p + 1 + x.length - p = x.length + 1 by omega,show (src.drop p).take (x.length + 1) = 58 :: x by rw [Qaz hc,List.take_succ_cons];congr 1;rw [hx];exact tw_take _]
  refine ⟨_,rfl,_,_,rfl, .inr (T.q_MODIFIERS _),rfl,Qbd _,_,rfl,?_⟩
  rw [if_pos rfl,Qce,Qrk]
  cases q:Vaarra.modWords.contains x
  case true =>
   rw [q,if_pos rfl] at key
   refine iteF ⟨_,rfl,_,rfl,?_⟩
   exact Qe3 T (E:=E0) (k.some key)
  case false =>
   rw [q,if_neg Bool.false_ne_true] at key
   refine iteT ⟨_,rfl,?_⟩
   exact Qbk (Qbg T) (k.none key)
theorem Qku (src:List Nat) (v:Nat):(ss src).cps.getD v 0 = (src[v]?).getD 0:=by
 show src.toArray.getD v 0 = _
 simp [Array.getD]
 by_cases h:v < src.length
 ·rw [dif_pos h,List.getElem?_eq_getElem h];rfl
 ·rw [dif_neg h,List.getElem?_eq_none (by omega)];rfl
def spCom:Sp:=fun vs H Q _=>∃ (src:List Nat) (p:Nat),vs = [.str (ss src), .int p]∧Src src∧p ≤ src.length ∧
 Q (.int ((min src.length (p + ((src.drop p).takeWhile fun y=>y != 10).length + 1):Nat):Int)) H
theorem Qxo (T:Txt K mg a):FnOk P w K mg base CX0 1 a.f_qae a.fd_qae ["source", "place"] spCom:=by
 refine T.F_qae.ok Qt0 (fun vs H Q E h=>?_) (fun cdv A outer s H vs Q E hr h=>?_)
 ·obtain ⟨src,p,rfl,_⟩:=h
  rfl
 ·obtain ⟨src,p,rfl,hS,hp,k⟩:=h
  have nd:=Qt0.nd
  refine ⟨_,Qa2 (Qao (i:=2) nd rfl (Or.inl rfl) (Qj1 F.plainAttrs_str F.slot_str_find F.type_str_find Qri (pv 0) (Qa0 Qad (Qa0 (pv 1) Qa5))))
   (Qa4 (Qae (Qd7 (Qac Qc1 (pv 2) (Qr8 Ql3 Qai) (Qap _)) (Qbf Qb5 (by rfl) T.z_len PySem.boot_len (Qa0 (pv 0) Qa5)) (Qbl Qd0 (pv 2) Qai)))),?_⟩
  refine ⟨_,rfl,rfl,_,rfl,_,ss [10],_,rfl,rfl,?_⟩
  have tl:=tw_len (fun y=>y != 10) (src.drop p)
  rw [List.length_drop] at tl
  have fi:fromIndex (ss src).length (p:Int) = p:=by unfold fromIndex;rw [if_neg (by omega)];omega
  rcases PySem.StrLaws.find3_spec (ss src) 10 p with ⟨e,hn⟩ | ⟨v,e,h1,h2,h3,h4⟩
  ·rw [show Txt.find3 (ss src) (ss [10]) p = -1 from e]
   refine ⟨_,rfl,_,rfl,rfl,_,rfl,?_⟩
   rw [decide_eq_true (show V.int (-1) = V.int (-1) from rfl)]
   refine iteT ⟨_,rfl,_,rfl,hS.line,?_⟩
   rw [Qb1]
   have ej:((src.drop p).takeWhile fun y=>y != 10).length = src.length - p:=by
    rcases Nat.lt_or_ge ((src.drop p).takeWhile fun y=>y != 10).length (src.length - p) with q | q
    ·obtain ⟨d,hd⟩ : ∃ d,src[p + ((src.drop p).takeWhile fun y=>y != 10).length]? = some d:=⟨_,List.getElem?_eq_getElem (by omega)⟩
     have:=tw_end (f:=fun y=>y != 10) (l:=src.drop p) (c:=d) (by rw [Qdd];exact hd)
     have d10:d = 10:=by simpa using this
     refine absurd ?_ (hn (p + ((src.drop p).takeWhile fun y=>y != 10).length) (by rw [fi];omega) (by rw [Qb1];omega))
     rw [Qku,hd];exact d10
    ·omega
   rw [show min src.length (p + ((src.drop p).takeWhile fun y=>y != 10).length + 1) = src.length by omega] at k
   exact k
  ·rw [show Txt.find3 (ss src) (ss [10]) p = (v:Int) from e]
   refine ⟨_,rfl,_,rfl,rfl,_,rfl,?_⟩
   rw [decide_eq_false (show ¬ V.int (v:Int) = V.int (-1) from fun q=>by have:=V.int.inj q;omega)]
   refine iteF ⟨_,rfl,_,_,rfl,rfl,?_⟩
   rw [fi] at h1 h4
   rw [Qb1] at h2
   rw [Qku] at h3
   have hv:src[v]? = some 10:=by rw [List.getElem?_eq_getElem h2] at h3 ⊢;exact congrArg some h3
   have ej:v = p + ((src.drop p).takeWhile fun y=>y != 10).length:=by
    rcases Nat.lt_trichotomy v (p + ((src.drop p).takeWhile fun y=>y != 10).length) with q | q | q
    ·obtain ⟨d,hd,hd2⟩:=tw_at (f:=fun y=>y != 10) (l:=src.drop p) (j:=v - p) (by omega)
     rw [Qdd,show p + (v - p) = v by omega,hv] at hd
     cases hd
     cases hd2
    ·exact q
    ·obtain ⟨d,hd⟩ : ∃ d,src[p + ((src.drop p).takeWhile fun y=>y != 10).length]? = some d:=⟨_,List.getElem?_eq_getElem (by omega)⟩
     have:=tw_end (f:=fun y=>y != 10) (l:=src.drop p) (c:=d) (by rw [Qdd];exact hd)
     have d10:d = 10:=by simpa using this
     refine absurd ?_ (h4 (p + ((src.drop p).takeWhile fun y=>y != 10).length) (by omega) q)
     rw [Qku,hd];exact d10
   rw [show min src.length (p + ((src.drop p).takeWhile fun y=>y != 10).length + 1) = v + 1 by omega] at k
   show Q (.int ((v:Int) + 1)) _
   exact k
end
theorem Qc5 (x y:List Nat):ss x ++ ss y = ss (x ++ y):=by
 show (⟨x.toArray ++ y.toArray⟩ : Str) = _
 simp
theorem Qqa (c:Nat):decide (V.str ⟨#[c]⟩ = V.str (":" : Str)) = decide (c = 58):=Qid c 58
theorem Qiu {r:List Nat} (h:∀ c ∈ r,c < 128):Txt.isdigit (ss (r.take 1)) = ((r.head?).map Vaarra.digit).getD false:=by
 cases r with
 | nil=>rfl
 | cons d r=>exact Qg9 (h d List.mem_cons_self)
theorem Qit {r:List Nat} (h:∀ c ∈ r,c < 128):Txt.islower (ss (r.take 1)) = ((r.head?).map Vaarra.small).getD false:=by
 cases r with
 | nil=>show Txt.islower (ss []) = false;decide +kernel
 | cons d r=>exact Qj6 (h d List.mem_cons_self)
theorem Qjn {src:List Nat} {p:Nat} {f:Nat→Bool} (h:(((src.drop p).head?).map f).getD false = true):∃ d,src[p]? = some d∧f d = true:=by
 cases q:src.drop p with
 | nil=>rw [q] at h;cases h
 | cons d r =>
  rw [q] at h
  refine ⟨d,?_,h⟩
  have:=Qdd src p 0
  rw [q] at this
  exact this.symm
theorem Qik {src:List Nat} {p c:Nat} (hc:src[p]? = some c) (h1:Vaarra.digit c = false) (h2 : ¬ (c = 95∧(((src.drop (p + 1)).head?).map Vaarra.digit).getD false = true)) (h3:(Vaarra.small c || Vaarra.great c) = false)
  (h4 : ¬ (c = 58∧(((src.drop (p + 1)).head?).map Vaarra.small).getD false = true)) :
  Qd2 (src.drop p) = if ([[58,61],[60,61],[47,61]]:List (List Nat)).contains (c :: (src.drop (p + 1)).take 1) then some (.sign (c :: (src.drop (p + 1)).take 1),c :: (src.drop (p + 1)).take 1)
   else if ([[40],[41],[123],[125],[59],[43],[45],[42],[60],[61]]:List (List Nat)).contains [c] then some (.sign [c],[c]) else none:=by
 rw [Qaz hc,Qbc]
 unfold Qch
 rw [if_neg (by rw [h1];exact Bool.false_ne_true),if_neg h2,if_neg (by rw [h3];exact Bool.false_ne_true),if_neg h4]
 have e:Vaarra.signAt (c :: src.drop (p + 1)) = if ([[58,61],[60,61],[47,61]]:List (List Nat)).contains (c :: (src.drop (p + 1)).take 1) then some (c :: (src.drop (p + 1)).take 1)
   else if ([[40],[41],[123],[125],[59],[43],[45],[42],[60],[61]]:List (List Nat)).contains [c] then some [c] else none:=rfl
 rw [e]
 by_cases q:([[58,61],[60,61],[47,61]]:List (List Nat)).contains (c :: (src.drop (p + 1)).take 1) = true
 ·rw [if_pos q,if_pos q]
 ·rw [if_neg q,if_neg q]
  by_cases q2:([[40],[41],[123],[125],[59],[43],[45],[42],[60],[61]]:List (List Nat)).contains [c] = true
  ·rw [if_pos q2,if_pos q2]
  ·rw [if_neg q2,if_neg q2]
theorem two_no_small {c:Nat} {r:List Nat} (h:([[58,61],[60,61],[47,61]]:List (List Nat)).contains (c :: r.take 1) = true):((r.head?).map Vaarra.small).getD false = false:=by
 cases r with
 | nil=>rfl
 | cons d r =>
  have h:([[58,61],[60,61],[47,61]]:List (List Nat)).contains [c,d] = true:=h
  simp only [List.contains_cons,List.contains_nil,Bool.or_false,Bool.or_eq_true,beq_iff_eq,List.cons.injEq,and_true] at h
  show Vaarra.small d = false
  rw [← Bool.not_eq_true,Qc6];omega
theorem t_or {tA tB:TT} {σ : L2.St} {H:Hp} {F:Bool→Hp→Prop} {x y:Bool} (hA:∀ F':Bool→Hp→Prop,F' x H→tA σ H F') (hB:∀ F':Bool→Hp→Prop,F' y H→tB σ H F') (h:F (x || y) H):tOr tA tB σ H F:=by
 refine hA _ ?_
 cases x
 case true=>exact iteT h
 case false=>exact iteF (hB _ h)
theorem Qux {tA tB:TT} {σ : L2.St} {H:Hp} {F:Bool→Hp→Prop} {x y:Bool} (hA:∀ F':Bool→Hp→Prop,F' x H→tA σ H F') (hB:∀ F':Bool→Hp→Prop,F' y H→tB σ H F') (h:F (x && y) H):tAnd tA tB σ H F:=by
 refine hA _ ?_
 cases x
 case true=>exact iteT (hB _ h)
 case false=>exact iteF h
theorem Qkl {c:TT} {t u rest:TS} {D:Ends} {σ : L2.St} {H:Hp} (h:c σ H fun b H1=>if b = true then t { D with nx:=rest D } σ H1 else u { D with nx:=rest D } σ H1):Quy { D with nx:=tSeq (tIfS c t u) rest D } σ H:=h
theorem t_is {g:Str→Bool} {i:Nat} {σ : L2.St} {H:Hp} {z:Str} {b:Bool} (hi : σ[i]? = some (some (.str z))) (hb:g z = b) (F:Bool→Hp→Prop) (h:F b H):tB (tM0 (fun x xs H Q=>∃ a,x = V.str a∧xs = []∧True∧Q (V.bl (g a)) H) (tVar i)) σ H F :=
 ⟨_,hi,⟨_,rfl⟩,_,rfl,rfl,trivial,_,rfl,by rw [hb];exact h⟩
theorem t_eq {i:Nat} {σ : L2.St} {H:Hp} {y z:Str} {b:Bool} (hi : σ[i]? = some (some (.str z))) (hb:decide (V.str z = V.str y) = b) (F:Bool→Hp→Prop) (h:F b H):Qg0 (tOp rEq (tVar i) (tC (V.str y))) σ H F :=
 ⟨_,hi,rfl,_,rfl,by rw [hb];exact h⟩
section
variable {P : Program} {w : World} {K : PySem.W.Frag} {mg : Str → Option Value} {base : Heap} {a : Ad}
def Qtu (K:PySem.W.Frag) (a:Ad):Sp:=fun vs H Q E=>∃ (src:List Nat) (p c:Nat),vs = [.str (ss src), .int p]∧Src src∧src[p]? = some c∧Qdy K a.c_Refused a.c_Token src p H Q E
theorem Qx9 (T:Txt K mg a):FnOk P w K mg base (CX1 P w) 5 a.f_qbc a.fd_qbc ["source", "place"] (Qtu K a):=by
 refine T.F_qbc.okX Qsq (fun vs H Q E h=>?_) (fun cdv A outer s H vs Q E hr h=>?_)
 ·obtain ⟨src,p,c,rfl,_⟩:=h
  rfl
 ·obtain ⟨src,p,c,rfl,hS,hc,k⟩:=h
  have nd:=Qsq.nd
  refine ⟨_,Qa2 (Qao (i:=2) nd rfl (Or.inl rfl) (Qcd Qev (pv 0) (pv 1) (fun _ _=>rfl)))
   (Qa2 (Qao (i:=3) nd rfl (Or.inl rfl) (Qct Qh9 (pv 0) (Qc9 (Qbl Qd0 (pv 1) Qai)) (Qc9 (Qbl Qd0 (pv 1) Qai))))
   (Qa2 (Qb6 ((pw_or (Qcs (Qkd F.slot_str_isdigit F.type_str_isdigit Qf5 (pv 2))) (pw_or1 ((pw_and (Qac Qc1 (pv 2) Qad (Qap _)) (pw_and1 (Qcs (Qkd F.slot_str_isdigit F.type_str_isdigit Qf5 (pv 3))))).pt))).pt)
    (Qa4 (Qae (Qag (Qxd T) hr rfl T.g_qax T.F_qax.kp T.B_qax .nil Qbq (Qa0 (pv 0) (Qa0 (pv 1) Qa5))))) Qak)
   (Qa2 (Qb6 (Qcs (Qkd F.slot_str_islower F.type_str_islower Qhf (pv 2))) (Qa4 (Qae (Qag (Qt7 T) hr rfl T.g_qbh T.F_qbh.kp T.B_qbh .nil Qbq (Qa0 (pv 0) (Qa0 (pv 1) (Qa0 Qad Qa5)))))) Qak)
   (Qa2 (Qb6 (Qcs (Qkd F.slot_str_isupper F.type_str_isupper Qng (pv 2))) (Qa4 (Qae (Qag (Qt7 T) hr rfl T.g_qbh T.F_qbh.kp T.B_qbh .nil Qbq (Qa0 (pv 0) (Qa0 (pv 1) (Qa0 Qad Qa5)))))) Qak)
   (Qa2 (Qb6 (Qac Qbh (Qbl Qaq (pv 2) (pv 3)) (Qbp (v:=.ref a.p_SIGNS_OF_TWO) (by rfl) T.g_SIGNS_OF_TWO rfl) (by with_unfolding_all rfl)) (Qa4 (Qae (Qag (Qtb T) (hr.mono (by decide)) rfl T.g_qas T.F_qas.kp T.B_qas .nil Qam (Qa0 (Qbl Qaq (pv 2) (pv 3)) (Qa0 (pv 1) Qa5))))) Qak)
   (Qa2 (Qb6 ((pw_and (Qac Qc1 (pv 2) Qad (Qap _)) (pw_and1 (Qcs (Qkd F.slot_str_islower F.type_str_islower Qhf (pv 3))))).pt) (Qa4 (Qae (Qag (Qxi T) hr rfl T.g_qam T.F_qam.kp T.B_qam .nil Qbq (Qa0 (pv 0) (Qa0 (pv 1) Qa5))))) Qak)
   (Qa2 (Qb6 (Qac Qbh (pv 2) (Qbp (v:=.ref a.p_SIGNS_OF_ONE) (by rfl) T.g_SIGNS_OF_ONE rfl) (by with_unfolding_all rfl)) (Qa4 (Qae (Qag (Qtb T) (hr.mono (by decide)) rfl T.g_qas T.F_qas.kp T.B_qas .nil Qam (Qa0 (pv 2) (Qa0 (pv 1) Qa5))))) Qak)
   (Qa4 (Qc8 rfl Qc7 T.em_TokenFault (Qp3 T) (hr.mono (by decide)) (by rfl) T.g_TokenFault T.B_qw (pv 1)))))))))),?_⟩
  have c128:=hS.at hc
  have r128:∀ d ∈ src.drop (p + 1),d < 128:=fun d hd=>hS.asc d (List.mem_of_mem_drop hd)
  obtain ⟨r,hr'⟩ : ∃ r,r = src.drop (p + 1):=⟨_,rfl⟩
  refine ⟨_,rfl,_,rfl,_,_,c,rfl,rfl,hS.line,Qji hc,?_⟩
  refine ⟨_,rfl,_,rfl,_,_,rfl,rfl,_,rfl,_,rfl,_,_,rfl,rfl,_,rfl,_,rfl,hS.line,?_⟩
  rw [show (p:Int) + 1 = ((p + 1:Nat):Int) by omega,show (p:Int) + 2 = ((p + 2:Nat):Int) by omega,Qhm,show p + 2 - (p + 1) = 1 by omega]
  have sl:(ss ((src.drop (p + 1)).take 1)).length ≤ 1:=by rw [Qb1,List.length_take];omega
  refine t_or (t_is rfl (Qg9 c128)) (fun F' h=>Qux (t_eq rfl (Qlw c)) (t_is rfl (Qiu r128)) h) ?_
  cases h1:(Vaarra.digit c || (decide (c = 95) && (((src.drop (p + 1)).head?).map Vaarra.digit).getD false))
  case true =>
   refine iteT ⟨_,rfl,_,rfl,src,p,c,rfl,hS,hc,?_,k⟩
   rw [Bool.or_eq_true,Bool.and_eq_true,decide_eq_true_eq] at h1
   exact h1.imp id fun q=>⟨q.1,Qjn q.2⟩
  case false =>
  rw [Bool.or_eq_false_iff,Bool.and_eq_false_iff,decide_eq_false_iff_not] at h1
  have hd:=h1.1
  have hu : ¬ (c = 95∧(((src.drop (p + 1)).head?).map Vaarra.digit).getD false = true):=fun q=>h1.2.elim (fun z=>z q.1) fun z=>by rw [z] at q;cases q.2
  refine iteF (Qkl (t_is rfl (Qj6 c128) _ ?_))
  cases hs:Vaarra.small c
  case true=>exact iteT ⟨_,rfl,_,rfl,src,p,c,_,rfl,hS,hc,by rw [hs];rfl,by rw [hs];rfl,k⟩
  case false =>
  refine iteF (Qkl (t_is rfl (Qp1 c128) _ ?_))
  cases hgr:Vaarra.great c
  case true=>exact iteT ⟨_,rfl,_,rfl,src,p,c,_,rfl,hS,hc,by rw [hs,hgr];rfl,by rw [hs];rfl,k⟩
  case false =>
  have hl:(Vaarra.small c || Vaarra.great c) = false:=by rw [hs,hgr];rfl
  have add:(ss [c]).length + (ss ((src.drop (p + 1)).take 1)).length ≤ sizeLine:=by rw [Qb1];exact Nat.le_trans (Nat.add_le_add_left sl _) (by show 1 + 1 ≤ sizeLine;decide)
  have ea:ss [c] ++ ss ((src.drop (p + 1)).take 1) = ss (c :: (src.drop (p + 1)).take 1):=Qc5 _ _
  refine iteF ⟨_,rfl,_,rfl,_,_,rfl,rfl,add,_,_,rfl, .inr (T.q_SIGNS_OF_TWO _),rfl,Qbd _,_,rfl,?_⟩
  rw [if_neg Bool.false_ne_true,show (⟨#[c]⟩ : Str) ++ ss ((src.drop (p + 1)).take 1) = ss (c :: (src.drop (p + 1)).take 1) from ea,Qce]
  cases h2:([[58,61],[60,61],[47,61]]:List (List Nat)).contains (c :: (src.drop (p + 1)).take 1)
  case true =>
   have key:=Qik hc hd hu hl fun q=>by rw [two_no_small h2] at q;cases q.2
   rw [if_pos h2] at key
   refine iteT ⟨_,rfl,_,rfl,_,_,rfl,rfl,add,_,rfl,?_⟩
   rw [show (⟨#[c]⟩ : Str) ++ ss ((src.drop (p + 1)).take 1) = ss (c :: (src.drop (p + 1)).take 1) from ea]
   exact ⟨_,_,rfl,k.some key⟩
  case false =>
  refine iteF (Qkl (Qux (t_eq rfl (Qqa c)) (t_is rfl (Qit r128)) ?_))
  cases h3:(decide (c = 58) && (((src.drop (p + 1)).head?).map Vaarra.small).getD false)
  case true =>
   rw [Bool.and_eq_true,decide_eq_true_eq] at h3
   obtain ⟨d,hd1,hd2⟩:=Qjn h3.2
   exact iteT ⟨_,rfl,_,rfl,src,p,d,rfl,hS,by rw [hc,h3.1],hd1,hd2,k⟩
  case false =>
  rw [Bool.and_eq_false_iff,decide_eq_false_iff_not] at h3
  have key:=Qik hc hd hu hl fun q=>h3.elim (fun z=>z q.1) fun z=>by rw [z] at q;cases q.2
  rw [if_neg (by rw [h2];exact Bool.false_ne_true)] at key
  refine iteF ⟨_,rfl,_,_,rfl, .inr (T.q_SIGNS_OF_ONE _),rfl,Qbd _,_,rfl,?_⟩
  rw [if_neg Bool.false_ne_true,show inV (V.str ⟨#[c]⟩) _ = _ from Qce [[40],[41],[123],[125],[59],[43],[45],[42],[60],[61]] [c]]
  cases h4:([[40],[41],[123],[125],[59],[43],[45],[42],[60],[61]]:List (List Nat)).contains [c]
  case true =>
   rw [if_pos h4] at key
   exact iteT ⟨_,rfl,_,rfl,[c],_,rfl,k.some key⟩
  case false =>
   rw [if_neg (by rw [h4];exact Bool.false_ne_true)] at key
   refine iteF ⟨_,rfl,?_⟩
   exact Qbk (Qbg T) (k.none key)
end
def Sp' (t:Vaarra.Tok) (x:List Nat):Prop:=(t = .fin∧x = []) ∨ ∃ b,Qd2 b = some (t,x)
def Qnw (C:Addr) (H:Hp) (y:Addr) (q:Nat × Vaarra.Tok):Prop:=∃ dx x,H y = some (.ins C dx (tf (Qet q.2) q.1 (ss x)))∧Sp' q.2 x
theorem Qnw.same {C:Addr} {H H':Hp} {y:Addr} {q:Nat × Vaarra.Tok} (h:Qnw C H y q) (e:Same H H'):Qnw C H' y q:=let ⟨dx,x,h1,h2⟩:=h; ⟨dx,x,e _ _ h1,h2⟩
abbrev Qb2 (C:Addr) (H:Hp):List Addr→Vaarra.Toks→Prop:=Paired (Qnw C H)
theorem Qb2.same {C:Addr} {H H':Hp}:∀ {as:List Addr} {T:Vaarra.Toks},Qb2 C H as T→Same H H'→Qb2 C H' as T
 | _,_, .nil,_=>.nil
 | _,_, .cons h t,e=>.cons (h.same e) (Qb2.same t e)
theorem Qb2.snoc {C:Addr} {H:Hp} {y:Addr} {q:Nat × Vaarra.Tok}:∀ {as:List Addr} {T:Vaarra.Toks},Qb2 C H as T→Qnw C H y q→Qb2 C H (as ++ [y]) (T ++ [q])
 | _,_, .nil,h=>.cons h .nil
 | _,_, .cons h t,h2=>.cons h (Qb2.snoc t h2)
theorem Qb2.get {C:Addr} {H:Hp}:∀ {as:List Addr} {T:Vaarra.Toks} {i:Nat} {q:Nat × Vaarra.Tok},Qb2 C H as T→T[i]? = some q→∃ y,as[i]? = some y∧Qnw C H y q
 | _,_,_,_, .nil,e=>by simp at e
 | _,_,0,_, .cons h _,e=>by simp at e;subst e;exact ⟨_,rfl,h⟩
 | _,_,i + 1,q, .cons _ t,e=>by
  obtain ⟨y,h1,h2⟩:=Qb2.get (i:=i) (q:=q) t (by simpa using e)
  exact ⟨y,by simpa using h1,h2⟩
theorem Qb2.length {C:Addr} {H:Hp} {as:List Addr} {T:Vaarra.Toks} (h:Qb2 C H as T):as.length = T.length:=Paired.length h
theorem Qvr (c:Nat):sgn c < 128:=by have:=Qbx c;omega
theorem Qv6 {bs:List Nat} (h:bs.length ≤ 2048):Src (bs.map sgn):=⟨by rw [List.length_map];exact h,fun c hc=>by obtain ⟨d,_,rfl⟩:=List.mem_map.mp hc;exact Qvr d⟩
theorem Qjh:∀ l:List (List Nat),TL.joinL [] l = l.flatten
 | []=>rfl
 | [p]=>by show p = _;simp
 | p :: q :: r=>by
  show p ++ ([] ++ TL.joinL [] (q :: r)) = _
  rw [Qjh (q :: r)];rfl
theorem Qsk {x y:Str} (h:TL.tl x = TL.tl y):x = y:=by
 obtain ⟨⟨a⟩⟩:=x
 obtain ⟨⟨b⟩⟩:=y
 have h:a = b:=h
 rw [h]
theorem Qpo (l:List Nat):Txt.join ("" : Str) (l.map fun c=>ss [c]) = ss l:=by
 apply Qsk
 rw [TL.join_eq,TL.tl_join]
 show TL.joinL [] _ = l
 rw [Qjh,List.map_map]
 induction l with
 | nil=>rfl
 | cons c r ih=>rw [List.map_cons,List.flatten_cons,ih];rfl
theorem Qb2.upd {C:Addr} {H:Hp} {y:Addr} {xs zs:List V}:∀ {as:List Addr} {T:Vaarra.Toks},Qb2 C H as T→H y = some (.lst xs)→Qb2 C (upd H y (.lst zs)) as T
 | _,_, .nil,_=>.nil
 | _,_, .cons ⟨dx,x,h1,h2⟩ t,e=>.cons ⟨dx,x,by rw [Qa6 (Qc2 h1 e (by intro q;cases q))];exact h1,h2⟩ (Qb2.upd t e)
theorem Qaj {H H':Hp} {y:Addr} {o:HO} (h:Same H H') (n:H y = none):Same H (L2.upd H' y o):=fun b q e=>by rw [Qa6 (Qa7 e n)];exact h b q e
theorem Qsa (c:Nat) (h9:c ≠ 9) (h13:c ≠ 13):([[32],[10]]:List (List Nat)).contains [c] = Vaarra.blank c:=by
 refine b_eq (p:=c = 32 ∨ c = 10) ?_ ?_
 ·simp only [List.contains_cons,List.contains_nil,Bool.or_false,Bool.or_eq_true,beq_iff_eq,List.cons.injEq,and_true]
 ·rw [Qgw];omega
theorem Qs5 (c:Nat):decide (V.str ⟨#[c]⟩ = V.str ("#" : Str)) = decide (c = 35):=Qid c 35
theorem Qqx (l:List Nat):((l.map fun c=>ss [c]).map (·.length)).sum = l.length:=by
 induction l with
 | nil=>rfl
 | cons c r ih=>rw [List.map_cons,List.map_cons,List.sum_cons,ih,List.length_cons];show 1 + _ = _;omega
def Cut (bs src:List Nat) (p:Nat) (acc:Vaarra.Toks):Prop:=Vaarra.tokens bs = (toks p (src.drop p)).map (acc ++ ·)
theorem Cut.start (bs:List Nat):Cut bs (bs.map sgn) 0 []:=by
 unfold Cut
 rw [Qo4,List.drop_zero,Qqu]
 cases toks 0 bs with
 | error e=>rfl
 | ok l=>rfl
theorem Cut.move {bs src:List Nat} {p q:Nat} {acc:Vaarra.Toks} (h:Cut bs src p acc) (e:toks p (src.drop p) = toks q (src.drop q)):Cut bs src q acc:=by unfold Cut at *;rw [h,e]
theorem Cut.push {bs src:List Nat} {p q:Nat} {acc:Vaarra.Toks} {t:Vaarra.Tok} (h:Cut bs src p acc) (e:toks p (src.drop p) = Vaarra.before p t (toks q (src.drop q))):Cut bs src q (acc ++ [(p,t)]):=by
 unfold Cut at *
 rw [h,e]
 cases toks q (src.drop q) with
 | error f=>rfl
 | ok l=>show Except.ok (acc ++ ((p,t) :: l)) = Except.ok ((acc ++ [(p,t)]) ++ l);rw [List.append_assoc];rfl
section
variable {P : Program} {w : World} {K : PySem.W.Frag} {mg : Str → Option Value} {base : Heap} {a : Ad}
theorem Qpf (T:Txt K mg a) {k:Str} {i:Int} {y:Str} {H:Hp} {F:Addr→Hp→Prop} {E:XK} (h:∀ H' y' dx,H y' = none→Same H H'→H' y' = some (.ins a.c_Token dx (tf k i y))→F y' H'):∀ x dx,H x = none→H dx = none→dx ≠ x →
  Qoa (K:=K) (.ref x :: ([.str k, .int i, .str y] ++ [])) (upd (upd H dx (.own x)) x (.ins a.c_Token dx [])) (fun v H2=>v = .non∧F x H2) E:=by
 intro x dx hx hd ne
 obtain ⟨_,_,_,_,_,_,e,c,n1,n2,n3,e2,k⟩:=Qe3 T (k:=k) (i:=i) (y:=y) (H:=H) (Q:=fun v H2=>∃ y',v = .ref y'∧F y' H2) (E:=E) (fun H' y' dx' h1 h2 h3=>⟨y',rfl,h H' y' dx' h1 h2 h3⟩) x dx hx hd ne
 refine ⟨_,_,_,_,_,_,e,c,n1,n2,n3,e2,fun H' q1 q2=>?_⟩
 obtain ⟨z1,y',z2,z3⟩:=k H' q1 q2
 cases z2
 exact ⟨z1,z3⟩
def spCut (K:PySem.W.Frag) (a:Ad):Sp:=fun vs H Q E=>∃ (l:Addr) (bs:List Nat),vs = [.ref l]∧SqL K H l (bs.map fun (n:Nat)=>V.int n)∧bs.length ≤ 2048∧match Vaarra.tokens bs with
 | .ok T=>∀ H' y as,Same H H'→H y = none→H' y = some (.lst (as.map V.ref))→Qb2 a.c_Token H' as T→Q (.ref y) H'
 | .error f=>f.kind = 2→∀ cls d H',EW K a.c_Refused 2 f.place cls d H'→E cls d H'
theorem Qxt (T:Txt K mg a):FnOk P w K mg base (CX1 P w) 6 a.f_cut a.fd_cut ["text"] (spCut K a):=by
 refine T.F_cut.okX Qt1 (fun vs H Q E h=>?_) (fun cdv A outer s H vs Q E hr h=>?_)
 ·obtain ⟨l,bs,rfl,_⟩:=h
  rfl
 ·obtain ⟨l,bs,rfl,hL,hlen,k⟩:=h
  have nd:=Qt1.nd
  refine ⟨_,Qa2 (Qao (i:=1) nd rfl (Or.inl rfl) (Qke Qad (Qnc (own:=[("byte",5)]) rfl nd (Qd6 (pv 0)) (Qck (by rfl)) (fun s H C cl fp=>Qci (i:=5) nd rfl (Or.inl rfl)) (fun s H C cl fp=>Qdo)
    (fun s H C cl fp=>Qag (Qx7 T) (hr.mono (by decide)) rfl T.g_qbf T.F_qbf.kp T.B_qbf .nil Qam (Qa0 (pv 5) Qa5)))))
   (Qa2 (Qao (i:=2) nd rfl (Or.inl rfl) (Qc0 Qa5))
   (Qa2 (Qao (i:=3) nd rfl (Or.inl rfl) Qai)
   (Qa2 (Qd5 own1 (Qac Qnd (pv 3) (Qbf Qb5 (by rfl) T.z_len PySem.boot_len (Qa0 (pv 1) Qa5)) (Qap _))
    (Qa4 (Qb6 (Qac Qbh (Qcd Qev (pv 1) (pv 3) (fun _ _=>rfl)) (Qbp (v:=.ref a.p_BLANKS) (by rfl) T.g_BLANKS rfl) (by with_unfolding_all rfl))
     (Qa4 (Qhb (i:=3) nd rfl (Or.inl rfl) Qai Qhh))
     (Qa4 (Qb6 (Qac Qc1 (Qcd Qev (pv 1) (pv 3) (fun _ _=>rfl)) Qad (Qap _))
      (Qa4 (Qao (i:=3) nd rfl (Or.inl rfl) (Qag (Qxo T) (hr.mono (by decide)) rfl T.g_qae T.F_qae.kp T.B_qae .nil Qam (Qa0 (pv 1) (Qa0 (pv 3) Qa5)))))
      (Qa2 (Qao (i:=4) nd rfl (Or.inl rfl) (Qag (Qx9 T) hr rfl T.g_qbc T.F_qbc.kp T.B_qbc .nil Qbq (Qa0 (pv 1) (Qa0 (pv 3) Qa5))))
      (Qa2 (Qaw (Qj1 PySem.F.plainAttrs_list PySem.F.slot_list_append PySem.F.type_list_append Qcn (pv 2) (Qa0 (pv 4) Qa5)))
      (Qa4 (Qhb (i:=3) nd rfl (Or.inl rfl) (Qbf Qb5 (by rfl) T.z_len PySem.boot_len (Qa0 (Qab (pv 4) rfl) Qa5)) Qhh)))))))))
   (Qa2 (Qaw (Qj1 PySem.F.plainAttrs_list PySem.F.slot_list_append PySem.F.type_list_append Qcn (pv 2) (Qa0 (Qca T.mk_Token (Qja T) (hr.mono (by decide)) rfl T.g_Token T.B_qaq .nil Qam (Qa0 Qad (Qa0 (Qbf Qb5 (by rfl) T.z_len PySem.boot_len (Qa0 (pv 1) Qa5)) (Qa0 Qad Qa5)))) Qa5)))
   (Qa4 (Qae (pv 2))))))),?_⟩
  obtain ⟨src,hsrc⟩ : ∃ src,src = bs.map sgn:=⟨_,rfl⟩
  have hS:Src src:=by rw [hsrc];exact Qv6 hlen
  have sl:src.length = bs.length:=by rw [hsrc,List.length_map]
  have no:∀ {p c:Nat},src[p]? = some c→c ≠ 9∧c ≠ 13:=fun {p c} e=>by
   have hm:=List.mem_of_getElem? e
   rw [hsrc] at hm
   obtain ⟨d,_,rfl⟩:=List.mem_map.mp hm
   have:=Qbx d
   omega
  refine ⟨⟨_,rfl⟩,_,rfl,l,rfl,⟨_,hL⟩,fun D hD=>?_⟩
  refine Qdu (K:=K) (a:=l) (xs:=bs.map fun (n:Nat)=>V.int n) (fun i H'=>H' D = some (.lst ((bs.take i).map fun c=>V.str (ss [sgn c])))∧Same H H') ⟨Qa3,fun b o e=>by rw [Qa6 (Qa7 e hD)];exact e⟩ (fun i H' _ h=>h.2.seq hL) (fun i x H' hx h=>?_) (fun H1 h=>?_)
  ·rw [List.getElem?_map] at hx
   obtain ⟨c,hc,rfl⟩:=Option.map_eq_some_iff.mp hx
   refine ⟨rfl,⟨_,rfl,c,rfl,_,h.1,?_,Qa3.trans ?_,Qaj h.2 hD⟩⟩
   ·rw [List.length_map,List.length_take];exact Nat.lt_of_le_of_lt (Nat.min_le_right _ _) (Nat.lt_of_le_of_lt hlen (by decide))
   ·rw [List.take_succ,hc];simp
  obtain ⟨hD1,sm1⟩:=h
  rw [List.length_map,List.take_length] at hD1
  refine ⟨_,D,src.map fun c=>ss [c],rfl,rfl, .inl (SqL.of ?_),?_,?_⟩
  ·rw [hD1,hsrc];simp
  ·rw [Qqx,List.length_map];show src.length + src.length * 0 ≤ _;have:=hS.len;omega
  show (fun (z:Str)=>_) (Txt.join ("" : Str) (src.map fun c=>ss [c]))
  rw [Qpo]
  refine ⟨Nat.zero_le _,fun y hy=>?_⟩
  have hyH:H y = none:=sm1.free hy
  refine ⟨fun m σ H'=>∃ (p:Nat) (acc:Vaarra.Toks) (as:List Addr) (tk:Option V),m = src.length - p∧σ = [some (.ref l),some (.str (ss src)),some (.ref y),some (.int p),tk,none]∧H' y = some (.lst (as.map V.ref))∧Same H H'∧Qb2 a.c_Token H' as acc∧p ≤ src.length∧acc.length ≤ p∧Cut bs src p acc,
   ⟨_,0,[],[],none,rfl,rfl,Qa3,Qaj sm1 hyH, .nil,Nat.zero_le _,Nat.le_refl _,by rw [hsrc];exact Cut.start bs⟩,?_⟩
  rintro m σ H' ⟨p,acc,as,tk,rfl,rfl,hy',sm,tok,hp,ha,cut⟩
  refine ⟨_,rfl,_,rfl,_,rfl,hS.line,_,_,rfl,rfl,_,rfl,?_⟩
  rw [Qb1]
  have asl:(as.map V.ref).length < sizeLine:=by rw [List.length_map,tok.length];have:=hS.len;exact Nat.lt_of_le_of_lt (show acc.length ≤ 2048 by omega) (by decide)
  by_cases hlt:p < src.length
  ·rw [decide_eq_true (show (p:Int) < (src.length:Int) by omega)]
   obtain ⟨c,hc⟩ : ∃ c,src[p]? = some c:=⟨_,List.getElem?_eq_getElem hlt⟩
   refine iteT ⟨fun σ' H2=>∃ m',m' < src.length - p∧_,fun _ _ h=>h,?_⟩
   refine ⟨_,rfl,_,rfl,_,_,c,rfl,rfl,hS.line,Qji hc,_,_,rfl, .inr (T.q_BLANKS _),rfl,Qbd _,_,rfl,?_⟩
   rw [if_neg Bool.false_ne_true,show inV (V.str ⟨#[c]⟩) _ = _ from Qce [[32],[10]] [c],Qsa c (no hc).1 (no hc).2]
   cases hb:Vaarra.blank c
   case true =>
    refine iteT ⟨_,rfl,_,_,rfl,rfl,src.length - (p + 1),by omega,p + 1,acc,as,tk,rfl,?_,hy',sm,tok,hlt,by omega,cut.move (by rw [Qaz hc,Qe0 hb])⟩
    show [_,_,_,some (V.int ((p:Int) + 1)),_,_] = _
    rw [show (p:Int) + 1 = ((p + 1:Nat):Int) by omega]
   case false =>
   have hb' : ¬ Vaarra.blank c = true:=by rw [hb];exact Bool.false_ne_true
   refine iteF ⟨_,rfl,_,rfl,_,_,c,rfl,rfl,hS.line,Qji hc,rfl,_,rfl,?_⟩
   rw [Qs5]
   by_cases h35:c = 35
   ·rw [decide_eq_true h35]
    subst h35
    refine iteT ⟨_,rfl,_,rfl,src,p,rfl,hS,hp,?_⟩
    obtain ⟨k10,hk⟩ : ∃ k10,k10 = ((src.drop p).takeWhile fun y=>y != 10).length:=⟨_,rfl⟩
    have k1 : 1 ≤ k10:=by rw [hk,Qaz hc];exact tw_pos (by decide)
    have kl:p + k10 ≤ src.length:=by have:=tw_len (fun y=>y != 10) (src.drop p);rw [List.length_drop,← hk] at this;omega
    have e1:toks p (src.drop p) = toks (p + k10) (src.drop (p + k10)):=by
     have:=Qdk (i:=p) (r:=src.drop (p + 1))
     rw [← Qaz hc,← hk,List.drop_drop] at this
     exact this
    rw [← hk]
    refine ⟨src.length - min src.length (p + k10 + 1),by omega,min src.length (p + k10 + 1),acc,as,tk,rfl,rfl,hy',sm,tok,by omega,by omega,cut.move ?_⟩
    rw [e1]
    by_cases hq:p + k10 < src.length
    ·rw [show min src.length (p + k10 + 1) = p + k10 + 1 by omega]
     obtain ⟨d,hd⟩ : ∃ d,src[p + k10]? = some d:=⟨_,List.getElem?_eq_getElem hq⟩
     have:=tw_end (f:=fun y=>y != 10) (l:=src.drop p) (c:=d) (by rw [Qdd,← hk];exact hd)
     have d10:d = 10:=by simpa using this
     rw [Qaz hd,Qe0 (by rw [d10];decide)]
    ·rw [show min src.length (p + k10 + 1) = p + k10 by omega]
   ·rw [decide_eq_false h35]
    refine iteF ⟨_,rfl,_,rfl,src,p,c,rfl,hS,hc,?_⟩
    unfold Qdy
    cases q:Qd2 (src.drop p) with
    | none =>
     intro cls d Hx hx
     have e:Vaarra.tokens bs = .error ⟨2,p⟩:=by
      have:=cut
      unfold Cut at this
      rw [this,Qaz hc,Qf1 hb' h35 (by rw [← Qaz hc];exact q)];rfl
     rw [e] at k
     exact k rfl cls d Hx hx
    | some tx =>
     obtain ⟨t,x⟩:=tx
     intro H2 y2 dx2 hy2 sm2 ht2
     have l1:=Qdl q
     rw [List.length_drop] at l1
     have hyy:H2 y = some (.lst (as.map V.ref)):=sm2 _ _ hy'
     have tok2:=Qb2.snoc (y:=y2) (q:=(p,t)) ((tok.same sm2).upd (zs:=as.map V.ref ++ [V.ref y2]) hyy) ⟨dx2,x,(by rw [Qa6 (Qc2 ht2 hyy (by intro q;cases q))];exact ht2), .inr ⟨_,q⟩⟩
     refine ⟨_,rfl, .inl ⟨rfl,_,SqL.of hyy⟩,_,rfl,y,_,_,rfl,rfl,hyy,asl,?_⟩
     refine ⟨_,rfl,_,rfl,y2,a.c_Token,dx2,_,_,rfl,(by rw [Qa6 (Qc2 ht2 hyy (by intro q;cases q))];exact ht2),T.cl_Token,T.n_Token_spelling,rfl,_,rfl,(by rw [Qb1];have:=hS.len;exact Nat.le_trans (show x.length ≤ 2048 by omega) (by decide)),_,_,rfl,rfl,?_⟩
     refine ⟨src.length - (p + x.length),by omega,p + x.length,acc ++ [(p,t)],as ++ [y2],some (.ref y2),rfl,?_,?_,?_,tok2,by omega,by rw [List.length_append,List.length_singleton];omega,cut.push ?_⟩
     ·show [_,_,_,some (V.int ((p:Int) + ((ss x).length:Int))),_,_] = _
      rw [Qb1,show (p:Int) + (x.length:Int) = ((p + x.length:Nat):Int) by omega]
     ·rw [Qa3,List.map_append];rfl
     ·exact Qaj (sm.trans sm2) hyH
     ·have e:=Qht (i:=p) hb' h35 (by rw [← Qaz hc];exact q)
      rw [← Qaz hc,List.drop_drop] at e
      exact e
  ·rw [decide_eq_false (show ¬ (p:Int) < (src.length:Int) by omega)]
   have ep:p = src.length:=by omega
   have e:Vaarra.tokens bs = .ok (acc ++ [(src.length, .fin)]):=by
    have:=cut
    unfold Cut at this
    rw [this,ep,List.drop_length,Qhv];rfl
   rw [e] at k
   refine iteF ⟨_,rfl, .inl ⟨rfl,_,SqL.of hy'⟩,_,rfl,_,rfl,hS.line,?_⟩
   show ∀ (x dx:Addr),H' x = none→H' dx = none→dx ≠ x→_
   refine Qpf T (E:=E0) fun H2 y2 dx2 hy2 sm2 ht2=>?_
   have hyy:H2 y = some (.lst (as.map V.ref)):=sm2 _ _ hy'
   refine ⟨y,_,_,rfl,rfl,hyy,asl,_,rfl,?_⟩
   rw [Qb1] at ht2
   exact k _ y (as ++ [y2]) (Qaj (sm.trans sm2) hyH) hyH (by rw [Qa3,List.map_append];rfl)
    (Qb2.snoc ((tok.same sm2).upd hyy) ⟨dx2,[],(by rw [Qa6 (Qc2 ht2 hyy (by intro q;cases q))];exact ht2), .inl ⟨rfl,rfl⟩⟩)
end
end My
end
section
namespace L2
open PySem PySem.Spec PyProof.Rows
theorem Qud (u v:Value):argsOk "max" ⟨[u],[(Str.ofString "default",v)]⟩:=by unfold argsOk;kernel_rfl
theorem Qi5:(toString "max" ++ toString ".loop" : String) = "max.loop" := by decide
section
variable {prog : Program} {w : World} {A : Around} {R : Result → Shared → Prop} {J : Addr} {fp wr : List Addr} {n : Nat} {P : Nat → Value → Prop} {St : Nat → Heap → Prop} {dv : Value}
theorem Quc (W:Walks prog w A.in1 J fp wr n P St) (bt:Nat→Nat→Bool) (hcmp:CmpOf prog w A.in1 .Gt P bt) (B:Addr) (hB:B ∉ fp):∀ (k j:Nat) (s:Shared) (vb:Value) (c:Nat),n - (j + 1) = k→j + 1 ≤ n→St (j + 1) s.heap→P (argBest bt j) vb →
  s.heap.get? B = some { cls:=.type "list",dict:=none,data:=.seq #[vb,vb] c,slots:=#[] } →
  (∀ v h' tk,P (argBest bt (n - 1)) v→(∀ b o,b ∉ wr→b ≠ B→s.heap.get? b = some o→h'.get? b = some o)→R (.ok (.ret v)) { s with heap:=h',toks:=tk }) →
  codeAny (model prog w) A (.builtin "max.loop" ⟨[.ref J, .none, .ref B],[(Str.ofString "default",dv)]⟩) R s:=by
 have hBw:B ∉ wr:=fun h=>hB (W.sub _ h)
 intro k
 induction k with
 | zero =>
  intro j s vb c hk hj hst hPb hS hR
  have hin:j + 1 = n:=by omega
  refine codeAny_builtin PySem.F.entry_max_loop ?_
  rw [Around.under_plainId PySem.F.plain_max_loop _]
  show wpAny _ A.in1 (seqItems? (.ref B) >>= _) _ _ s
  refine wpAny_bind (wpAny_seqItems hS rfl ?_)
  show wpAny _ A.in1 (tryCatch (pyNext (.ref J)) _ >>= _) _ _ s
  refine wpAny_bind (wpAny_tryCatch (W.done s _ _ (hin ▸ hst) fun h1 tk keep=>?_))
  have hS1:=keep B _ hBw hS
  show wpAny _ A.in1 (updateSeq B (fun _=>#[]) >>= _) _ _ _
  refine wpAny_bind ?_
  refine wpAny_updateSeq hS1 rfl (wpAny_bind (wpAny_letGo (wpAny_pure ?_)))
  refine hR vb _ tk (by rw [← hin];exact hPb) fun b o hbw hbB e=>(Heap.get?_update_other _ _ (Ne.symm hbB)).trans (keep b o hbw e)
 | succ k ih =>
  intro j s vb c hk hj hst hPb hS hR
  have hlt:j + 1 < n:=by omega
  refine codeAny_builtin PySem.F.entry_max_loop ?_
  rw [Around.under_plainId PySem.F.plain_max_loop _]
  show wpAny _ A.in1 (seqItems? (.ref B) >>= _) _ _ s
  refine wpAny_bind (wpAny_seqItems hS rfl ?_)
  show wpAny _ A.in1 (tryCatch (pyNext (.ref J)) _ >>= _) _ _ s
  refine wpAny_bind (wpAny_tryCatch (W.item (j + 1) s _ _ hlt hst fun v h1 tk hP hst1 keep=>?_))
  have hS1:=keep B _ hBw hS
  show wpAny _ A.in1 (tryCatch (holding [v,v] (richCompare .Gt v vb >>= _)) _ >>= _) _ _ _
  refine wpAny_bind (wpAny_tryCatch (wpAny_holding (wpAny_bind (hcmp (j + 1) (argBest bt j) v vb _ _ _ hP hPb ?_))))
  refine wpAny_bind (wpAny_holding (wpAny_truthy_bool ?_))
  refine wpAny_bind (wpAny_letGo (wpAny_pure ?_))
  cases hb:bt (j + 1) (argBest bt j) with
  | true =>
   simp only [if_true]
   refine wpAny_bind ?_
   refine wpAny_updateSeq hS1 rfl (wpAny_bind (wpAny_letGo ?_))
   rw [Qi5]
   refine wpAny_pure ⟨plainId_quiet PySem.F.plain_max_loop _,ih (j + 1) _ v _ (by omega) hlt (W.frame _ _ _ hst1 fun b hbf o e=>?_) (by simp only [argBest,hb,if_true];exact hP) (Heap.get?_update_self _ hS1 rfl) fun v2 h2 tk2 hP2 keep2=>?_⟩
   ·exact (Heap.get?_update_other _ _ (fun h:B = b=>hB (by rw [h];exact hbf))).trans e
   ·exact hR v2 h2 tk2 hP2 fun b o hbw hbB e=>keep2 b o hbw hbB ((Heap.get?_update_other _ _ (Ne.symm hbB)).trans (keep b o hbw e))
  | false =>
   simp only [Bool.false_eq_true,if_false]
   refine wpAny_bind (wpAny_letGo ?_)
   rw [Qi5]
   refine wpAny_pure ⟨plainId_quiet PySem.F.plain_max_loop _,ih (j + 1) _ vb c (by omega) hlt hst1 (by simp only [argBest,hb,Bool.false_eq_true,if_false];exact hPb) hS1 fun v2 h2 tk2 hP2 keep2=>?_⟩
   exact hR v2 h2 tk2 hP2 fun b o hbw hbB e=>keep2 b o hbw hbB (keep b o hbw e)
theorem Qrh (W:Walks prog w A.in1 J fp wr n P St) (bt:Nat→Nat→Bool) (hcmp:CmpOf prog w A.in1 .Gt P bt) (B:Addr) (hB:B ∉ fp) {s:Shared} {c:Nat} (hst:St 0 s.heap) (hS:s.heap.get? B = some { cls:=.type "list",dict:=none,data:=.seq #[] c,slots:=#[] })
  (h0:n = 0→∀ h' tk,(∀ b o,b ∉ wr→b ≠ B→s.heap.get? b = some o→h'.get? b = some o)→R (.ok (.ret dv)) { s with heap:=h',toks:=tk })
  (hR : 0 < n→∀ v h' tk,P (argBest bt (n - 1)) v→(∀ b o,b ∉ wr→b ≠ B→s.heap.get? b = some o→h'.get? b = some o)→R (.ok (.ret v)) { s with heap:=h',toks:=tk }) :
  codeAny (model prog w) A (.builtin "max.loop" ⟨[.ref J, .none, .ref B],[(Str.ofString "default",dv)]⟩) R s:=by
 have hBw:B ∉ wr:=fun h=>hB (W.sub _ h)
 refine codeAny_builtin PySem.F.entry_max_loop ?_
 rw [Around.under_plainId PySem.F.plain_max_loop _]
 show wpAny _ A.in1 (seqItems? (.ref B) >>= _) _ _ s
 refine wpAny_bind (wpAny_seqItems hS rfl ?_)
 show wpAny _ A.in1 (tryCatch (pyNext (.ref J)) _ >>= _) _ _ s
 by_cases hn:n = 0
 ·subst hn
  refine wpAny_bind (wpAny_tryCatch (W.done s _ _ hst fun h1 tk keep=>?_))
  refine wpAny_bind (wpAny_rule (wpAny_pure ?_))
  exact h0 rfl h1 tk fun b o hbw hbB e=>keep b o hbw e
 ·refine wpAny_bind (wpAny_tryCatch (W.item 0 s _ _ (by omega) hst fun v h1 tk hP hst1 keep=>?_))
  have hS1:=keep B _ hBw hS
  show wpAny _ A.in1 (updateSeq B (fun _=>#[v,v]) >>= _) _ _ _
  refine wpAny_bind ?_
  refine wpAny_updateSeq hS1 rfl ?_
  rw [Qi5]
  refine wpAny_pure ⟨plainId_quiet PySem.F.plain_max_loop _,Quc W bt hcmp B hB _ 0 _ v _ rfl (by omega) (W.frame _ _ _ hst1 fun b hbf o e=>?_) hP (Heap.get?_update_self _ hS1 rfl) fun v2 h2 tk2 hP2 keep2=>?_⟩
  ·exact (Heap.get?_update_other _ _ (fun h:B = b=>hB (by rw [h];exact hbf))).trans e
  ·exact hR (by omega) v2 h2 tk2 hP2 fun b o hbw hbB e=>keep2 b o hbw hbB ((Heap.get?_update_other _ _ (Ne.symm hbB)).trans (keep b o hbw e))
end
section
variable {prog : Program} {w : World} {A : Around} {E : Value → Shared → Prop} {s : Shared} {l : Addr} {its : List Value} {ns : List Int} {Q : Value → Shared → Prop} {dv : Value}
theorem Qrm (hh:A.handled = none) (hl:s.heap.IsList l its.toArray) (hi:IntsAre its ns)
  (h0:ns = []→∀ h' tk,(∀ b o,s.heap.get? b = some o→h'.get? b = some o)→Q dv { s with heap:=h',toks:=tk })
  (h:∀ h' tk M t',(∀ b o,s.heap.get? b = some o→h'.get? b = some o)→M ∈ ns→(∀ a,a ∈ ns→a ≤ M)→Q (.int M t') { s with heap:=h',toks:=tk }):wpAny (model prog w) A (call (.builtin "max") [.ref l] [(Str.ofString "default",dv)]) Q E s:=by
 obtain ⟨xs,e⟩:=hi.allInts.items
 have hn:numsOf (intItems xs).toList = ns:=by rw [← e];exact hi.numsOf
 rw [nums_intItems] at hn
 subst hn
 rw [e] at hl
 refine PyProof.Rows.kmk_tree PySem.F.kind_max PySem.F.plain_max PySem.F.entry_max (Qud _ _) ?_
 show wpAny _ A.in1 (Builtin.Builtins.bindParams "max" ["key", "default"] 0 ⟨[],[(Str.ofString "default",dv)]⟩ >>= _) _ _ s
 refine wpAny_bind (wpAny_of_eq (show Builtin.Builtins.bindParams "max" ["key", "default"] 0 ⟨[],[(Str.ofString "default",dv)]⟩ = pure [none,some dv] from rfl) ?_)
 refine wpAny_bind (wpAny_pure ?_)
 refine wpAny_bind (PySem.iter_intList hl fun s2 es st hfp hlI=>?_)
 subst es
 refine wpAny_bind (wpAny_newObj_type ?_)
 rw [Qi5]
 have W:=Walks.list (prog:=prog) (w:=w) (A:=A.in1) hh s.heap.objs.size l hlI (intItems xs)
 have hSf:=fun hm=>Nat.lt_irrefl _ (hfp _ hm)
 have size:(intItems xs).size = xs.size:=by simp [intItems]
 refine wpAny_pure ⟨plainId_quiet PySem.F.plain_max_loop _,Qrh W _ (CmpOf.ints_gt (numAt xs) (fun _ _=>intItems_at)) _ hSf (W.frame _ _ _ st fun b _ o e=>Heap.get?_push_of_some _ e) (Heap.get?_push_size _ rfl) (fun hz h1 tk keep=>?_) fun hz v h1 tk hP keep=>?_⟩
 ·refine h0 ?_ h1 tk (PySem.old_kept fun b o hbw e=>keep b o hbw (Nat.ne_of_lt (Heap.lt_size e)) (Heap.get?_push_of_some _ e))
  have:xs.size = 0:=by rw [← size];exact hz
  have:xs = #[]:=Array.eq_empty_of_size_eq_zero this
  rw [this];rfl
 ·have hz' : 0 < xs.size:=by rw [← size];exact hz
  obtain ⟨t,rfl⟩:=intItems_at hP
  obtain ⟨h1',h2⟩:=argBest_gt (numAt xs) (xs.size - 1)
  rw [size]
  refine h h1 tk _ t (PySem.old_kept fun b o hbw e=>keep b o hbw (Nat.ne_of_lt (Heap.lt_size e)) (Heap.get?_push_of_some _ e)) ?_ fun a ha=>?_
  ·rw [numAt_eq];exact PySem.getD_mem (by rw [List.length_map,Array.length_toList];omega)
  ·obtain ⟨j,hj,rfl⟩:=mem_getD ha
   rw [List.length_map,Array.length_toList] at hj
   rw [← numAt_eq];exact h2 j (by omega)
end
section
variable {X : Cx} {e d : Expr} {te td : TE} {p pos kpos : Pos}
end
end L2
end
section
namespace L2
open PySem PySem.Spec PyProof.Rows
theorem Qjf {P:Program} {w:World}:∀ {kvs:List (Key × V)} {vs:List (Key × Value)} {acc:List Value},KV kvs vs→acc.length = vs.length→(∀ (j:Nat) (v:Value),acc[j]? = some v→∃ k x,vs[j]? = some (k,x)∧Qjg k v = true)→Vals (kvs.map fun kv=>kV kv.1) acc
 | [],[],[],_,_,_=>.nil
 | [],[],_ :: _,_,h,_=>by simp at h
 | p :: l,q :: m,v :: acc, .cons e t,h,hi=>by
  obtain ⟨k,x,h1,h2⟩:=hi 0 v rfl
  simp only [List.getElem?_cons_zero,Option.some.injEq] at h1
  subst h1
  refine .cons ?_ (Qjf (P:=P) (w:=w) t (by simpa using h) fun j u hu=>by simpa using hi (j + 1) u (by simpa using hu))
  show RelV (kV p.1) v
  rw [e.1]
  exact Qr3 h2
 | _ :: _,_ :: _,[], .cons _ _,h,_=>by simp at h
section
variable {X : Cx}
theorem Qh2 (hc:X.calm = true):Qh6 X (.type "list") (fun xs H Q=>∃ d kvs,xs = [.ref d]∧H d = some (.dK kvs)∧∀ l,H l = none→Q (.ref l) (upd H l (.lst (kvs.map fun kv=>kV kv.1)))):=by
 intro pins s σ H xs us Q I r h
 obtain ⟨d,kvs,rfl,hd,q⟩:=h
 obtain ⟨u,rfl,rx⟩:=Qm3 r
 cases rx
 obtain ⟨hz,lo,vs,kv,hD⟩:=I.hok d _ hd
 obtain ⟨ep,hat⟩:=hD.dictAt
 have hl:kvs.length = vs.length:=Paired.length kv
 refine PySem.W.kdl_call (PySem.W.kdl_dict (knd:=Qbv X.prog X.w) (kvs:=vs) (ep:=ep) lo) (I.ok.hd hc) hat (by omega) fun h' tk acc' c' kp e hi=>?_
 refine ⟨.ref s.heap.objs.size,_,I.laid (t':=tk) kp (Nat.le_refl _) (show Qcg X.prog X.w _ h' _ (.lst _) from ⟨by rw [List.length_map];exact hz,acc'.toList,c',Qjf (P:=X.prog) (w:=X.w) kv (by rw [Array.length_toList];exact hi.1) (fun j v hv=>hi.2 j v (by simpa using hv)),by simpa using e⟩),rfl,q _ (I.hok.fresh (Nat.le_refl _))⟩
def Qsj (i:Nat) (f:Addr) (sp:Sp) (dvs:List V) (E:XK) (t:TA):TE:=fun σ H Q=>σ[i]? = some (some (.ref f))∧t σ H fun vs H1=>sp (vs ++ dvs) H1 Q E
theorem Qrb {CX:CXT} {k i:Nat} {f:Addr} {fd:FuncData} {ps:List Str} {sp:Sp} {dvs:List V} {ds:List Value} {E:XK} {x:Str} {p pos:Pos} {e:Expr} {es:List Expr} {t:TA} (F:FnOk X.prog X.w X.K X.mg X.base CX k f fd ps sp) (hr:Room k X.A) (hk:PySem.W.keepIn X.K (.ref f) = true) (hb:Qal X.K fd ps ds) (hd:Vals dvs ds) (hx:Qcr CX X E)
  (ha:PA X (e :: es) t) (hN:X.N[i]? = some x:=by rfl) (hv:Vis X.env.scope x:=by first | exact Or.inl rfl | exact Or.inr (Or.inl rfl) | exact Or.inr (Or.inr rfl)) (hdb:(x == ("__debug__" : Str)) = false:=by decide) (hcd:(x == ("__classdict__" : Str)) = false:=by decide)
  (he:starEach (e :: es) X.env = (false,eval e X.env) :: starEach es X.env:=by rfl) (hpl:(backTo pos (starEach es X.env)).any (·.1) = false:=by rfl) :
  PE X (.Call (.Name x p) (e :: es) [] pos) (Qsj i f sp dvs E t):=by
 intro pins s σ H Q I h
 obtain ⟨e1,h⟩:=h
 refine wpAny_Call_Name_kw (thn (Qt2 (pos:=p) hN hv hdb hcd pins s σ H (fun v H1=>v = .ref f∧H1 = H) I ⟨_,e1,rfl,rfl⟩) fun u s1 ⟨v,H1,I1,r1,ev,eH⟩=>?_)
 subst ev
 subst eH
 obtain rfl:u = Value.ref f:=r1
 refine PySem.W.callWith_K (h₀:=X.base) I.ok.mod.kin hk (thn (ha pos pins s1 σ H1 _ I1 h) fun us s2 ⟨vs,H2,I2,r,q⟩=>⟨I2.kIn,?_⟩) he hpl
 exact Qiv F hr hb hd hx I2 r q
def rGetL (K:PySem.W.Frag):V→V→Hp→VK→Prop:=fun x y H Q=>∃ p xs,∃ (n:Nat),∃ v,x = .ref p∧y = .int n∧SqL K H p xs∧xs[n]? = some v∧Q v H
theorem Qrz:PGet X (rGetL X.K):=by
 intro pins s σ H o i ov iv Q I ro ri h
 obtain ⟨p,xs,n,z,rfl,rfl,hq,he,q⟩:=h
 cases ro
 obtain ⟨t,rfl⟩:=ri
 obtain ⟨its,r,pl,hz⟩:=I.list hq
 obtain ⟨w,ew,rw'⟩:=r.get he
 have hl:=r.length
 have hn:=Qgh
 have hlt:n < xs.length:=(List.getElem?_eq_some_iff.mp he).1
 exact wpAny_getItem_list pl.isList (by omega) (by omega) (by simpa using ew) ⟨z,H,I,rw',q⟩
end
section
variable {X : Cx} {e d : Expr} {te td : TE} {p pos kpos : Pos}
def Qv0 (K:PySem.W.Frag) (te td:TE):TE:=fun σ H Q=>Qec te tNil σ H fun vs H1=>Qec td tNil σ H1 fun zs H2=>∃ (a:Addr) (z:V) (ns:List Int) (m:Int),vs = [.ref a]∧zs = [z]∧SqL K H2 a (ns.map V.int)∧((ns = []∧z = .int m) ∨ (m ∈ ns∧∀ y,y ∈ ns→y ≤ m))∧Q (.int m) H2
theorem Qoz (hc:X.calm = true) (hg:Gl X "max") (hm:X.mg "max" = none) (he:PE X e te) (hd:PE X d td) (hs:starEach [e] X.env = [(false,eval e X.env)]:=by rfl) (hk:(backToKw pos (keywordEach [⟨some (Str.ofString "default"),d,kpos⟩] X.env)) = [(some (Str.ofString "default"),do let v ← eval d X.env;standAt pos;pure v)]:=by rfl) :
  PE X (.Call (.Name "max" p) [e] [⟨some (Str.ofString "default"),d,kpos⟩] pos) (Qv0 X.K te td):=by
 intro pins s σ H Q I h
 refine wpAny_Call_Name_kw (Qje I hg hm PyProof.Rows.boot_max ?_)
 refine PyProof.Rows.callWith_kw ?_ (by rw [hs];rfl) (by rw [hs];rfl) (by rw [hk];rfl) (by rw [hk];rfl)
 refine thn (Qa0 he Qa5 hs pos pins s σ H _ I h) fun us s1 ⟨vs,H1,I1,r1,q1⟩=>?_
 refine thn (Qu4 (nm:=some (Str.ofString "default")) (kpos:=kpos) hd Qwv pos pins s1 σ H1 _ I1 q1) fun ws s2 ⟨zs,H2,I2,r2,q2⟩=>?_
 obtain ⟨a,z,ns,m0,rfl,rfl,hl,hmx,q3⟩:=q2
 rw [hk]
 obtain ⟨u,rfl,rz⟩:=Qm3 r2
 rw [Vals.ref1 r1]
 obtain ⟨its,rv,hl2,_⟩:=I2.list hl
 refine Qrm (I.ok.hd hc) hl2.isList rv.ints (fun e h' tk keep=>⟨z,H2,I2.kept keep,rz,?_⟩) fun h' tk m t' keep h1 h2=>⟨.int m,H2,I2.kept keep,⟨_,rfl⟩,?_⟩
 ·rcases hmx with ⟨_,ez⟩ | ⟨h,_⟩
  ·rw [ez];exact q3
  ·rw [e] at h;cases h
 ·have:m = m0:=by
   rcases hmx with ⟨en,_⟩ | ⟨h3,h4⟩
   ·rw [en] at h1;cases h1
   ·exact Int.le_antisymm (h4 m h1) (h2 m0 h3)
  rw [this];exact q3
end
end L2
end
section
namespace My
open PySem PySem.Spec PyProof.Rows L2
structure Ms where
 w:Bool
 d:Nat
 lv:Nat
 nn:Nat
def nf (k wd:Str) (ln lp:Addr) (m:Ms):List (Str × V):=[("kind", .str k),("word", .str wd),("numbers", .ref ln),("parts", .ref lp),("depth", .int m.d),("levels", .int m.lv),("nodes", .int m.nn)]
def m1:Ms:=⟨false,1,1,1⟩
def maxl:List Nat→Nat
 | []=>0
 | d :: r=>max d (maxl r)
theorem Qi8:∀ {l:List Nat} {d:Nat},d ∈ l→d ≤ maxl l
 | d :: r,e,h=>by
  rcases List.mem_cons.mp h with h | h
  ·subst h;exact Nat.le_max_left _ _
  ·exact Nat.le_trans (Qi8 h) (Nat.le_max_right _ _)
theorem Qi7:∀ {l:List Nat},l ≠ []→maxl l ∈ l
 | [d],_=>by show max d 0 ∈ [d];rw [Nat.max_eq_left (Nat.zero_le _)];simp
 | d :: e :: r,_=>by
  show max d (maxl (e :: r)) ∈ _
  rcases Nat.le_total d (maxl (e :: r)) with h | h
  ·rw [Nat.max_eq_right h];exact List.mem_cons_of_mem _ (Qi7 (by simp))
  ·rw [Nat.max_eq_left h];simp
theorem Qxx {l:List Nat} {m:Int} (h1:m ∈ l.map fun (n:Nat)=>(n:Int)) (h2:∀ y ∈ l.map fun (n:Nat)=>(n:Int),y ≤ m):m = (maxl l:Nat):=by
 obtain ⟨k,hk,rfl⟩:=List.mem_map.mp h1
 have a1:=Qi8 hk
 have a2:=h2 (maxl l:Nat) (List.mem_map.mpr ⟨_,Qi7 (by rintro rfl;cases hk),rfl⟩)
 omega
theorem Qpc {l:List Nat} (h:l ≠ []):((maxl l:Nat):Int) ∈ (l.map fun (n:Nat)=>(n:Int))∧∀ y,y ∈ (l.map fun (n:Nat)=>(n:Int))→y ≤ ((maxl l:Nat):Int):=by
 refine ⟨List.mem_map.mpr ⟨_,Qi7 h,rfl⟩,fun y hy=>?_⟩
 obtain ⟨k,hk,rfl⟩:=List.mem_map.mp hy
 have:=Qi8 hk
 omega
def suml:List Nat→Nat
 | []=>0
 | d :: r=>d + suml r
theorem Ql5:∀ l:List Nat,(l.map fun (n:Nat)=>(n:Int)).sum = ((suml l:Nat):Int)
 | []=>rfl
 | d :: r=>by rw [List.map_cons,List.sum_cons,Ql5 r];show (d:Int) + ((suml r:Nat):Int) = ((d + suml r:Nat):Int);omega
def Qy4 (k:Str):Bool:=([[111,110,101],[116,119,111]]:List (List Nat)).contains k.cps.toList
def bump (k:Str) (w:Bool):Bool:=decide (V.str k = V.str ("body" : Str)) || (decide (V.str k = V.str ("two" : Str)) && w)
def lvl (k:Str):List Ms→Nat
 | []=>1
 | m :: r=>max (if bump k m.w then m.lv + 1 else m.lv) (maxl (r.map Ms.lv))
def mkM (k:Str) (ms:List Ms):Ms:=⟨Qy4 k,maxl (ms.map Ms.d) + 1,lvl k ms,suml (ms.map Ms.nn) + 1⟩
def Qbb (C:Addr) (H:Hp) (b:Addr) (m:Ms):Prop:=∃ dx k wd ln lp,H b = some (.ins C dx (nf k wd ln lp m))∧Qy4 k = m.w
theorem Qbb.same {C:Addr} {H H':Hp} {b:Addr} {d:Ms} (h:Qbb C H b d) (e:Same H H'):Qbb C H' b d:=let ⟨dx,k,wd,ln,lp,h1,h2⟩:=h; ⟨dx,k,wd,ln,lp,e _ _ h1,h2⟩
theorem Qbt {α β : Type} {R : α→β→Prop}:∀ {l:List α} {m:List β} {i:Nat} {x : α},Paired R l m→l[i]? = some x→∃ y,m[i]? = some y∧R x y
 | _,_,_,_, .nil,e=>by simp at e
 | _,_,0,_, .cons h _,e=>by simp at e;subst e;exact ⟨_,rfl,h⟩
 | _,_,i + 1,x, .cons _ t,e=>by
  obtain ⟨y,h1,h2⟩:=Qbt (i:=i) (x:=x) t (by simpa using e)
  exact ⟨y,by simpa using h1,h2⟩
theorem Qav {α β : Type} {R S : α→β→Prop} (f:∀ x y,R x y→S x y):∀ {l:List α} {m:List β},Paired R l m→Paired S l m
 | _,_, .nil=>.nil
 | _,_, .cons h t=>.cons (f _ _ h) (Qav f t)
theorem Qbi {α β : Type} {R : α→β→Prop} {l:List α} {m:List β} (h:Paired R l m):l.length = m.length:=Paired.length h
theorem Qub {C D dx dy ln lp:Addr} {k wd:Str} {m:Ms} {fs:List (Str × V)} (h:fs.length < 7):HO.ins C dx (nf k wd ln lp m) ≠ HO.ins D dy fs:=fun q=>by
 have e:=congrArg List.length (HO.ins.inj q).2.2
 rw [← e] at h
 exact absurd h (by show ¬ 7 < 7;decide)
section
variable {P : Program} {w : World} {K : PySem.W.Frag} {mg : Str → Option Value} {base : Heap} {a : Ad}
def spIsA (a:Ad):Sp:=fun vs H Q _=>∃ b m,vs = [.ref b]∧Qbb a.c_Node H b m∧Q (.bl m.w) H
theorem Qta (T:Txt K mg a):FnOk P w K mg base CX0 1 a.f_qat a.fd_qat ["node"] (spIsA a):=by
 refine T.F_qat.ok Qwc (fun vs H Q E h=>?_) (fun cdv A outer s H vs Q E hr h=>?_)
 ·obtain ⟨b,m,rfl,_⟩:=h
  rfl
 ·obtain ⟨b,m,rfl,⟨dx,k,wd,ln,lp,hb,hw⟩,kq⟩:=h
  refine ⟨_,Qa4 (Qae (Qg5 Qbh (Qab (pv 0) (by rfl)) (Qbp (v:=.ref a.p_APPLIED_KINDS) (by rfl) T.g_APPLIED_KINDS rfl) (by with_unfolding_all rfl))),?_⟩
  refine ⟨_,rfl,b,_,dx,_,_,rfl,hb,T.cl_Node,T.n_Node_kind,rfl,a.p_APPLIED_KINDS,_,rfl, .inr (T.q_APPLIED_KINDS _),rfl,Qbd _,?_⟩
  rw [if_neg Bool.false_ne_true,show V.str k = V.str (ss k.cps.toList) from rfl,Qce]
  rw [← hw] at kq
  exact kq
def Qvm (a:Ad):Sp:=fun vs H Q _=>∃ k lp parts ms,vs = [.str k, .ref lp]∧H lp = some (.lst (parts.map V.ref))∧parts.length ≤ 1000∧Paired (Qbb a.c_Node H) parts ms∧(ms = []→bump k true = false)∧∀ H',Same H H'→Q (.int (lvl k ms:Nat)) H'
theorem Qxb (T:Txt K mg a):FnOk P w K mg base CX0 2 a.f_qaz a.fd_qaz ["kind", "parts"] (Qvm a):=by
 refine T.F_qaz.ok Qsr (fun vs H Q E h=>?_) (fun cdv A outer s H vs Q E hr h=>?_)
 ·obtain ⟨k,lp,parts,ms,rfl,_⟩:=h
  rfl
 ·obtain ⟨k,lp,parts,ms,rfl,hlp,hlen,hD,hb,kq⟩:=h
  have nd:=Qsr.nd
  refine ⟨_,Qa2 (Qi0 (i:=2) (te:=tFld K (tVar 3) "levels") (own:=[("part",3)]) rfl nd rfl rfl (Qk9 rfl rfl rfl rfl) (Qd6 (pv 1)) (Qck (by rfl)) (fun s H C cl fp=>Qci (i:=3) nd rfl (Or.inl rfl)) (fun s H C cl fp=>Qdo) (fun s H C cl fp=>Qab (pv 3) (by rfl)))
   (Qa2 (Qb6 (pw_or (Qac Qc1 (pv 0) Qad (Qap _)) (pw_or1 (pw_and (Qac Qc1 (pv 0) Qad (Qap _)) (pw_and1 (Qcs (Qag (Qta T) (hr.mono (by decide)) (by rfl) T.g_qat T.F_qat.kp T.B_qat .nil Qam (Qa0 (Qcd Qbw (pv 1) Qai (fun _ _=>rfl)) Qa5))))).pt)).pt
    (Qa4 (Qu3 (pv 2) Qai Qrz Qai Qhh Qr1)) Qak)
   (Qa4 (Qae (Qoz rfl (by rfl) T.z_max (pv 2) Qai)))),?_⟩
  refine ⟨_,rfl,lp,rfl,⟨_,SqL.of hlp⟩,fun D hD'=>?_⟩
  refine Qdu (K:=K) (a:=lp) (xs:=parts.map V.ref) (fun i H'=>H' D = some (.lst ((ms.take i).map fun m=>V.int (m.lv:Nat)))∧Same H H') ⟨Qa3,fun b o e=>by rw [Qa6 (Qa7 e hD')];exact e⟩ (fun i H' _ h=>SqL.of (h.2 _ _ hlp)) (fun i v H' hx h=>?_) (fun H5 h=>?_)
  ·rw [List.getElem?_map] at hx
   obtain ⟨p,hp,rfl⟩:=Option.map_eq_some_iff.mp hx
   obtain ⟨m,hm,dxp,kp,wp,lnp,lpp,h1,_⟩:=Qbt hD hp
   refine ⟨rfl,⟨_,rfl,p,_,dxp,_,_,rfl,h.2 _ _ h1,T.cl_Node,T.n_Node_levels,rfl,_,h.1,?_,Qa3.trans ?_,Qaj h.2 hD'⟩⟩
   ·rw [List.length_map,List.length_take];exact Nat.lt_of_le_of_lt (Nat.min_le_right _ _) (Nat.lt_of_le_of_lt (by rw [← Qbi hD];exact hlen) (by decide))
   ·rw [List.take_succ,hm];simp
  obtain ⟨hD5,sm⟩:=h
  rw [List.length_map,Qbi hD,List.take_length] at hD5
  have lp5:=sm _ _ hlp
  cases hD with
  | nil =>
   have hb:=hb rfl
   unfold bump at hb
   rw [Bool.or_eq_false_iff,Bool.and_true] at hb
   refine ⟨_,rfl,rfl,_,rfl,?_⟩
   rw [hb.1]
   refine iteF ⟨_,rfl,rfl,_,rfl,?_⟩
   rw [hb.2]
   refine iteF (iteF ⟨_,rfl,D,_,[],1,rfl,rfl,SqL.of hD5, .inl ⟨rfl,rfl⟩,kq H5 sm⟩)
  | @cons p m l r dm hr' =>
   have fin:∀ (H6:Hp) (z:Nat),Same H H6→H6 D = some (.lst ((z :: r.map Ms.lv).map fun (n:Nat)=>V.int n))→max z (maxl (r.map Ms.lv)) = lvl k (m :: r)→Qv0 K (tVar 2) (tC (.int 1)) [some (.str k),some (.ref lp),some (.ref D),none] H6 Q:=fun H6 z sm6 h6 ez=>by
    have hm:=Qpc (l:=z :: r.map Ms.lv) (by simp)
    refine ⟨_,rfl,D,_,(z :: r.map Ms.lv).map fun (n:Nat)=>(n:Int),_,rfl,rfl,SqL.of (by rw [h6];simp), .inr hm,?_⟩
    rw [show maxl (z :: r.map Ms.lv) = lvl k (m :: r) from ez]
    exact kq H6 sm6
   have hD5':H5 D = some (.lst ((m.lv :: r.map Ms.lv).map fun (n:Nat)=>V.int n)):=by rw [hD5];simp
   have aug:∀ {H6:Hp},H6 = L2.upd H5 D (.lst (((m.lv + 1) :: r.map Ms.lv).map fun (n:Nat)=>V.int n))→Same H H6∧H6 D = some (.lst (((m.lv + 1) :: r.map Ms.lv).map fun (n:Nat)=>V.int n)):=fun e6=>by
    subst e6
    exact ⟨Qaj sm hD',Qa3⟩
   have e6:L2.upd H5 D (.lst (((m.lv :: r.map Ms.lv).map fun (n:Nat)=>V.int n).set 0 (V.int ((m.lv:Int) + 1)))) = L2.upd H5 D (.lst (((m.lv + 1) :: r.map Ms.lv).map fun (n:Nat)=>V.int n)):=by
    show L2.upd H5 D (.lst (V.int ((m.lv:Int) + 1) :: _)) = L2.upd H5 D (.lst (V.int ((m.lv + 1:Nat):Int) :: _))
    rw [show ((m.lv:Int) + 1) = ((m.lv + 1:Nat):Int) by omega]
   obtain ⟨s6,h6⟩:=aug e6
   have ix0:ixN ((m.lv :: r.map Ms.lv).map fun (n:Nat)=>V.int n).length 0 = some 0:=by
    unfold ixN
    rw [if_pos (Int.le_refl 0),if_pos (by rw [List.length_map,List.length_cons];omega)];rfl
   refine ⟨_,rfl,rfl,_,rfl,?_⟩
   cases h1:decide (V.str k = V.str ("body" : Str))
   case true =>
    have hbm:bump k m.w = true:=by unfold bump;rw [h1];rfl
    refine iteT (iteT ⟨_,rfl,D,_,0,_,rfl,rfl,SqL.of hD5',rfl,_,_,rfl,rfl,D,_,0,0,rfl,rfl,hD5',ix0,fin _ (m.lv + 1) s6 h6 ?_⟩)
    show _ = max (if bump k m.w = true then m.lv + 1 else m.lv) _
    rw [if_pos hbm]
   case false =>
   refine iteF ⟨_,rfl,rfl,_,rfl,?_⟩
   cases h2:decide (V.str k = V.str ("two" : Str))
   case false =>
    have hbm:bump k m.w = false:=by unfold bump;rw [h1,h2];rfl
    refine iteF (iteF (fin H5 m.lv sm hD5' ?_))
    show _ = max (if bump k m.w = true then m.lv + 1 else m.lv) _
    rw [hbm,if_neg Bool.false_ne_true]
   case true =>
    have hbm:bump k m.w = m.w:=by unfold bump;rw [h1,h2];cases m.w <;> rfl
    refine iteT ⟨_,rfl,lp,_,_,_,rfl,rfl,SqL.of lp5,Qcq (j:=0) rfl,p,m,rfl,dm.same sm,_,rfl,?_⟩
    cases hw:m.w
    case true =>
     refine iteT ⟨_,rfl,D,_,0,_,rfl,rfl,SqL.of hD5',rfl,_,_,rfl,rfl,D,_,0,0,rfl,rfl,hD5',ix0,fin _ (m.lv + 1) s6 h6 ?_⟩
     show _ = max (if bump k m.w = true then m.lv + 1 else m.lv) _
     rw [hbm,hw,if_pos rfl]
    case false =>
     refine iteF (fin H5 m.lv sm hD5' ?_)
     show _ = max (if bump k m.w = true then m.lv + 1 else m.lv) _
     rw [hbm,hw,if_neg Bool.false_ne_true]
def Qoe (K:PySem.W.Frag) (a:Ad):Sp:=fun vs H Q _=>∃ x dx k wd ln lp parts ds,vs = [.ref x, .str k, .str wd, .ref ln, .ref lp]∧H x = some (.ins a.c_Node dx [])∧H lp = some (.lst (parts.map V.ref))∧parts.length ≤ 1000∧Paired (Qbb a.c_Node H) parts ds∧(ds = []→bump k true = false) ∧
 ∀ H',H' x = some (.ins a.c_Node dx (nf k wd ln lp (mkM k ds)))→(∀ b o,H b = some o→b ≠ x→H' b = some o)→Q .non H'
theorem Qhd (T:Txt K mg a):FnOk P w K mg base CX0 3 a.f_qaw a.fd_qaw ["self", "kind", "word", "numbers", "parts"] (Qoe K a):=by
 refine T.F_qaw.ok Qsu (fun vs H Q E h=>?_) (fun cdv A outer s H vs Q E hr h=>?_)
 ·obtain ⟨x,dx,k,wd,ln,lp,parts,ds,rfl,_⟩:=h
  rfl
 ·obtain ⟨x,dx,kk,wd,ln,lp,parts,ds,rfl,hx,hlp,hlen,hD,hb,k⟩:=h
  have nd:=Qsu.nd
  refine ⟨_,Qa2 (Qbu (pv 0) (pv 1) rfl) (Qa2 (Qbu (pv 0) (pv 2) rfl) (Qa2 (Qbu (pv 0) (pv 3) rfl) (Qa2 (Qbu (pv 0) (pv 4) rfl)
   (Qa2 (Qbu (pv 0) (Qbl Qd0 Qai (Qoz rfl (by rfl) T.z_max (Qnc (te:=tFld K (tVar 5) "depth") (own:=[("part",5)]) rfl nd (Qd6 (pv 4)) (Qck (by rfl)) (fun s H C cl fp=>Qci (i:=5) nd rfl (Or.inl rfl)) (fun s H C cl fp=>Qdo) (fun s H C cl fp=>Qab (pv 5) (by rfl))) Qai)) rfl)
   (Qa2 (Qbu (pv 0) (Qag (Qxb T) (hr.mono (by decide)) rfl T.g_qaz T.F_qaz.kp T.B_qaz .nil Qam (Qa0 (pv 1) (Qa0 (pv 4) Qa5))) rfl)
   (Qa4 (Qbu (pv 0) (Qbl Qd0 Qai (Qbf (Qye rfl) (by rfl) T.z_sum PyProof.Rows.boot_sum (Qa0 (Qnc (te:=tFld K (tVar 5) "nodes") (own:=[("part",5)]) rfl nd (Qd6 (pv 4)) (Qck (by rfl)) (fun s H C cl fp=>Qci (i:=5) nd rfl (Or.inl rfl)) (fun s H C cl fp=>Qdo) (fun s H C cl fp=>Qab (pv 5) (by rfl))) Qa5))) rfl))))))),?_⟩
  have c:=T.cl_Node
  have keep:∀ {H':Hp},(∀ b o,H b = some o→b ≠ x→H' b = some o)→H' lp = some (.lst (parts.map V.ref))∧Paired (Qbb a.c_Node H') parts ds:=fun e=>⟨e _ _ hlp (Qc2 hlp hx (by intro q;cases q)),Qav (fun p d ⟨dxp,k',wd',ln',lp',h1,h2⟩=>⟨dxp,k',wd',ln',lp',e _ _ h1 (Qc2 h1 hx (Qub (by decide))),h2⟩) hD⟩
  have hsz:∀ {i:Nat} {f:Ms→V},((ds.take i).map f).length < sizeLine:=fun {i f}=>by
   rw [List.length_map,List.length_take];exact Nat.lt_of_le_of_lt (Nat.min_le_right _ _) (Nat.lt_of_le_of_lt (by rw [← Qbi hD];exact hlen) (by decide))
  refine ⟨_,rfl,_,rfl,x,_,dx,_,rfl,hx,c,T.n_Node_kind,(by show 0 < 1000;decide),?_⟩
  refine ⟨_,rfl,_,rfl,x,_,dx,_,rfl,Qa3,c,T.n_Node_word,(by show 1 < 1000;decide),?_⟩
  refine ⟨_,rfl,_,rfl,x,_,dx,_,rfl,Qa3,c,T.n_Node_numbers,(by show 2 < 1000;decide),?_⟩
  refine ⟨_,rfl,_,rfl,x,_,dx,_,rfl,Qa3,c,T.n_Node_parts,(by show 3 < 1000;decide),?_⟩
  obtain ⟨H4,hH4⟩ : ∃ H4,H4 = upd (upd (upd (upd H x (.ins a.c_Node dx (putF "kind" (.str kk) []))) x (.ins a.c_Node dx (putF "word" (.str wd) (putF "kind" (.str kk) [])))) x (.ins a.c_Node dx (putF "numbers" (.ref ln) (putF "word" (.str wd) (putF "kind" (.str kk) []))))) x (.ins a.c_Node dx (putF "parts" (.ref lp) (putF "numbers" (.ref ln) (putF "word" (.str wd) (putF "kind" (.str kk) []))))):=⟨_,rfl⟩
  have e4:∀ b o,H b = some o→b ≠ x→H4 b = some o:=fun b o e ne=>by rw [hH4,Qa6 ne,Qa6 ne,Qa6 ne,Qa6 ne];exact e
  have x4:H4 x = some (.ins a.c_Node dx [("kind", .str kk),("word", .str wd),("numbers", .ref ln),("parts", .ref lp)]):=by rw [hH4,Qa3];rfl
  rw [← hH4]
  obtain ⟨lp4,D4⟩:=keep e4
  refine ⟨_,rfl,lp,rfl,⟨_,SqL.of lp4⟩,fun D hD'=>?_⟩
  refine Qdu (K:=K) (a:=lp) (xs:=parts.map V.ref) (fun i H'=>H' D = some (.lst ((ds.take i).map fun m=>V.int (m.d:Nat)))∧Same H4 H') ⟨Qa3,fun b o e=>by rw [Qa6 (Qa7 e hD')];exact e⟩ (fun i H' _ h=>SqL.of (h.2 _ _ lp4)) (fun i v H' hx h=>?_) (fun H5 h=>?_)
  ·rw [List.getElem?_map] at hx
   obtain ⟨p,hp,rfl⟩:=Option.map_eq_some_iff.mp hx
   obtain ⟨m,hm,dxp,k',wd',ln',lp',h1,_⟩:=Qbt D4 hp
   refine ⟨rfl,⟨_,rfl,p,_,dxp,_,_,rfl,h.2 _ _ h1,c,T.n_Node_depth,rfl,_,h.1,hsz,Qa3.trans ?_,Qaj h.2 hD'⟩⟩
   rw [List.take_succ,hm];simp
  obtain ⟨hD5,sm⟩:=h
  rw [List.length_map,Qbi D4,List.take_length] at hD5
  refine ⟨D,_,(ds.map Ms.d).map fun (n:Nat)=>(n:Int),((maxl (ds.map Ms.d):Nat):Int),rfl,rfl,SqL.of (by rw [hD5];simp),?_,?_⟩
  ·by_cases e:ds = []
   ·subst e;exact .inl ⟨rfl,rfl⟩
   ·exact .inr (Qpc (by simpa using e))
  refine ⟨_,_,rfl,rfl,_,rfl,x,_,dx,_,rfl,sm _ _ x4,c,T.n_Node_depth,(by show 4 < 1000;decide),?_⟩
  obtain ⟨H6,hH6⟩ : ∃ H6,H6 = upd H5 x (.ins a.c_Node dx (putF "depth" (.int (1 + ((maxl (ds.map Ms.d):Nat):Int))) [("kind", .str kk),("word", .str wd),("numbers", .ref ln),("parts", .ref lp)])):=⟨_,rfl⟩
  have e6:∀ b o,H b = some o→b ≠ x→H6 b = some o:=fun b o e ne=>by rw [hH6,Qa6 ne];exact sm _ _ (e4 _ _ e ne)
  have x6:H6 x = some (.ins a.c_Node dx [("kind", .str kk),("word", .str wd),("numbers", .ref ln),("parts", .ref lp),("depth", .int ((maxl (ds.map Ms.d) + 1:Nat):Int))]):=by
   rw [hH6,Qa3,show (1:Int) + ((maxl (ds.map Ms.d):Nat):Int) = ((maxl (ds.map Ms.d) + 1:Nat):Int) by omega];rfl
  rw [← hH6]
  obtain ⟨lp6,D6⟩:=keep e6
  refine ⟨_,rfl,_,rfl,kk,lp,parts,ds,rfl,lp6,hlen,D6,hb,fun H7 sm7=>?_⟩
  refine ⟨_,rfl,x,_,dx,_,rfl,sm7 _ _ x6,c,T.n_Node_levels,(by show 5 < 1000;decide),?_⟩
  obtain ⟨H8,hH8⟩ : ∃ H8,H8 = upd H7 x (.ins a.c_Node dx (putF "levels" (.int ((lvl kk ds:Nat):Int)) [("kind", .str kk),("word", .str wd),("numbers", .ref ln),("parts", .ref lp),("depth", .int ((maxl (ds.map Ms.d) + 1:Nat):Int))])):=⟨_,rfl⟩
  have e8:∀ b o,H b = some o→b ≠ x→H8 b = some o:=fun b o e ne=>by rw [hH8,Qa6 ne];exact sm7 _ _ (e6 _ _ e ne)
  have x8:H8 x = some (.ins a.c_Node dx [("kind", .str kk),("word", .str wd),("numbers", .ref ln),("parts", .ref lp),("depth", .int ((maxl (ds.map Ms.d) + 1:Nat):Int)),("levels", .int ((lvl kk ds:Nat):Int))]):=by
   rw [hH8,Qa3];rfl
  rw [← hH8]
  obtain ⟨lp8,D8⟩:=keep e8
  refine ⟨_,rfl,lp,rfl,⟨_,SqL.of lp8⟩,fun D9 hD9=>?_⟩
  refine Qdu (K:=K) (a:=lp) (xs:=parts.map V.ref) (fun i H'=>H' D9 = some (.lst ((ds.take i).map fun m=>V.int (m.nn:Nat)))∧Same H8 H') ⟨Qa3,fun b o e=>by rw [Qa6 (Qa7 e hD9)];exact e⟩ (fun i H' _ h=>SqL.of (h.2 _ _ lp8)) (fun i v H' hx h=>?_) (fun H9 h=>?_)
  ·rw [List.getElem?_map] at hx
   obtain ⟨p,hp,rfl⟩:=Option.map_eq_some_iff.mp hx
   obtain ⟨m,hm,dxp,k',wd',ln',lp',h1,_⟩:=Qbt D8 hp
   refine ⟨rfl,⟨_,rfl,p,_,dxp,_,_,rfl,h.2 _ _ h1,c,T.n_Node_nodes,rfl,_,h.1,hsz,Qa3.trans ?_,Qaj h.2 hD9⟩⟩
   rw [List.take_succ,hm];simp
  obtain ⟨hD10,sm9⟩:=h
  rw [List.length_map,Qbi D8,List.take_length] at hD10
  refine ⟨D9,(ds.map Ms.nn).map fun (n:Nat)=>(n:Int),rfl,SqL.of (by rw [hD10];simp),?_⟩
  refine ⟨_,_,rfl,rfl,_,rfl,x,_,dx,_,rfl,sm9 _ _ x8,c,T.n_Node_nodes,(by show 6 < 1000;decide),?_⟩
  refine k _ ?_ fun b o e ne=>by rw [Qa6 ne];exact sm9 _ _ (e8 _ _ e ne)
  rw [Qa3,Ql5]
  dsimp only
  rw [show (1:Int) + ((suml (ds.map Ms.nn):Nat):Int) = ((suml (ds.map Ms.nn) + 1:Nat):Int) by omega];rfl
end
theorem Qlj (d:Nat):maxl [d] = d:=Nat.max_eq_left (Nat.zero_le _)
theorem Qrg {k wd:Str} {ln lp:Addr} {m m':Ms} (h1:m.d = m'.d) (h2:m.lv = m'.lv) (h3:m.nn = m'.nn):nf k wd ln lp m = nf k wd ln lp m':=by unfold nf;rw [h1,h2,h3]
theorem Quf {wd:Str} {ln lp:Addr} {d:Ms}:nf "body" wd ln lp (mkM "body" [d]) = nf "body" wd ln lp ⟨false,d.d + 1,d.lv + 1,d.nn + 1⟩:=by
 refine Qrg (congrArg (· + 1) (Qlj d.d)) ?_ rfl
 show max (if bump "body" d.w = true then d.lv + 1 else d.lv) 0 = d.lv + 1
 rw [if_pos (show bump "body" d.w = true from rfl),Nat.max_eq_left (Nat.zero_le _)]
theorem Qxw {wd:Str} {ln lp:Addr} {d:Ms}:nf "modified" wd ln lp (mkM "modified" [d]) = nf "modified" wd ln lp ⟨false,d.d + 1,d.lv,d.nn + 1⟩:=by
 refine Qrg (congrArg (· + 1) (Qlj d.d)) ?_ rfl
 show max (if bump "modified" d.w = true then d.lv + 1 else d.lv) 0 = d.lv
 have e:bump "modified" d.w = false:=by cases d.w <;> decide
 rw [e,if_neg Bool.false_ne_true,Nat.max_eq_left (Nat.zero_le _)]
section
variable {P : Program} {w : World} {K : PySem.W.Frag} {mg : Str → Option Value} {base : Heap} {a : Ad}
theorem Qcl (T:Txt K mg a) {k wd:Str} {ln lp:Addr} {parts:List Addr} {ds:List Ms} {H:Hp} {F:Addr→Hp→Prop} {E:XK} (hlp:H lp = some (.lst (parts.map V.ref))) (hlen:parts.length ≤ 1000) (hD:Paired (Qbb a.c_Node H) parts ds) (hb:ds = []→bump k true = false)
  (h:∀ H' y dx,H y = none→Same H H'→H' y = some (.ins a.c_Node dx (nf k wd ln lp (mkM k ds)))→F y H'):∀ x dx,H x = none→H dx = none→dx ≠ x →
  Qoe K a (.ref x :: ([.str k, .str wd, .ref ln, .ref lp] ++ [])) (upd (upd H dx (.own x)) x (.ins a.c_Node dx [])) (fun v H2=>v = .non∧F x H2) E:=by
 intro x dx hx hd ne
 have k1:∀ b o,H b = some o→upd (upd H dx (.own x)) x (.ins a.c_Node dx []) b = some o:=fun b o e=>by rw [Qa6 (Qa7 e hx),Qa6 (Qa7 e hd)];exact e
 refine ⟨x,dx,k,wd,ln,lp,parts,ds,rfl,Qa3,k1 _ _ hlp,hlen,Qav (fun p d h=>Qbb.same h k1) hD,hb,fun H' e1 e2=>⟨rfl,h H' x dx hx (fun b o e=>e2 b o (k1 b o e) (Qa7 e hx)) e1⟩⟩
def Qvg (a:Ad):Sp:=fun vs H Q _=>∃ ln,vs = [.ref ln]∧∀ H' y dx lp,H y = none→H lp = none→Same H H'→H' y = some (.ins a.c_Node dx (nf "numbers" "" ln lp m1))→H' lp = some (.lst [])→Q (.ref y) H'
theorem Qxl (T:Txt K mg a):FnOk P w K mg base CX0 5 a.f_qah a.fd_qah ["numbers"] (Qvg a):=by
 refine T.F_qah.ok Qwj (fun vs H Q E h=>?_) (fun cdv A outer s H vs Q E hr h=>?_)
 ·obtain ⟨ln,rfl,_⟩:=h
  rfl
 ·obtain ⟨ln,rfl,k⟩:=h
  refine ⟨_,Qa4 (Qae (Qca T.mk_Node (Qhd T) hr rfl T.g_Node T.B_qaw .nil Qam (Qa0 Qad (Qa0 Qad (Qa0 (pv 0) (Qa0 (Qc0 Qa5) Qa5)))))),?_⟩
  refine ⟨_,rfl,Nat.zero_le _,fun lp hlp=>?_⟩
  show ∀ (x dx:Addr),upd H lp (.lst []) x = none→upd H lp (.lst []) dx = none→dx ≠ x→_
  refine Qcl T (parts:=[]) (ds:=[]) (E:=E0) Qa3 (Nat.zero_le _) .nil (fun _=>by decide) fun H' y dx hy sm e=>?_
  have s0:Same H (upd H lp (.lst [])):=Qaj (fun _ _ e=>e) hlp
  exact k H' y dx lp (s0.free hy) hlp (s0.trans sm) e (sm _ _ Qa3)
def Qv9 (a:Ad):Sp:=fun vs H Q _=>∃ k wd,vs = [.str k, .str wd]∧bump k true = false∧∀ H' y dx ln lp,H y = none→H ln = none→H lp = none→Same H H'→H' y = some (.ins a.c_Node dx (nf k wd ln lp m1))→H' ln = some (.lst [])→H' lp = some (.lst [])→Q (.ref y) H'
theorem Qp5 (T:Txt K mg a):FnOk P w K mg base CX0 5 a.f_qav a.fd_qav ["kind", "word"] (Qv9 a):=by
 refine T.F_qav.ok Qwa (fun vs H Q E h=>?_) (fun cdv A outer s H vs Q E hr h=>?_)
 ·obtain ⟨k,wd,rfl,_⟩:=h
  rfl
 ·obtain ⟨kk,wd,rfl,hb,k⟩:=h
  refine ⟨_,Qa4 (Qae (Qca T.mk_Node (Qhd T) hr rfl T.g_Node T.B_qaw .nil Qam (Qa0 (pv 0) (Qa0 (pv 1) (Qa0 (Qc0 Qa5) (Qa0 (Qc0 Qa5) Qa5)))))),?_⟩
  refine ⟨_,rfl,_,rfl,Nat.zero_le _,fun ln hln=>⟨Nat.zero_le _,fun lp hlp=>?_⟩⟩
  have s0:Same H (upd H ln (.lst [])):=Qaj (fun _ _ e=>e) hln
  have s1:Same (upd H ln (.lst [])) (upd (upd H ln (.lst [])) lp (.lst [])):=Qaj (fun _ _ e=>e) hlp
  show ∀ (x dx:Addr),upd (upd H ln (.lst [])) lp (.lst []) x = none→upd (upd H ln (.lst [])) lp (.lst []) dx = none→dx ≠ x→_
  refine Qcl T (parts:=[]) (ds:=[]) (E:=E0) Qa3 (Nat.zero_le _) .nil (fun _=>hb) fun H' y dx hy sm e=>?_
  exact k H' y dx ln lp (s0.free (s1.free hy)) hln (s0.free hlp) (s0.trans (s1.trans sm)) e (sm _ _ (s1 _ _ Qa3)) (sm _ _ Qa3)
def Qvp (a:Ad):Sp:=fun vs H Q _=>∃ b d,vs = [.ref b]∧Qbb a.c_Node H b d∧∀ H' y dx ln lp,H y = none→H ln = none→H lp = none→Same H H'→H' y = some (.ins a.c_Node dx (nf "body" "" ln lp ⟨false,d.d + 1,d.lv + 1,d.nn + 1⟩))→H' ln = some (.lst [])→H' lp = some (.lst [.ref b])→Q (.ref y) H'
theorem Qxa (T:Txt K mg a):FnOk P w K mg base CX0 5 a.f_qba a.fd_qba ["expression"] (Qvp a):=by
 refine T.F_qba.ok Qw9 (fun vs H Q E h=>?_) (fun cdv A outer s H vs Q E hr h=>?_)
 ·obtain ⟨b,d,rfl,_⟩:=h
  rfl
 ·obtain ⟨b,d,rfl,hd,k⟩:=h
  refine ⟨_,Qa4 (Qae (Qca T.mk_Node (Qhd T) hr rfl T.g_Node T.B_qaw .nil Qam (Qa0 Qad (Qa0 Qad (Qa0 (Qc0 Qa5) (Qa0 (Qc0 (Qa0 (pv 0) Qa5)) Qa5)))))),?_⟩
  refine ⟨Nat.zero_le _,fun ln hln=>⟨_,rfl,(by show 1 ≤ sizeLine;decide),fun lp hlp=>?_⟩⟩
  have s0:Same H (upd H ln (.lst [])):=Qaj (fun _ _ e=>e) hln
  have s1:Same (upd H ln (.lst [])) (upd (upd H ln (.lst [])) lp (.lst [.ref b])):=Qaj (fun _ _ e=>e) hlp
  show ∀ (x dx:Addr),upd (upd H ln (.lst [])) lp (.lst [.ref b]) x = none→upd (upd H ln (.lst [])) lp (.lst [.ref b]) dx = none→dx ≠ x→_
  refine Qcl T (parts:=[b]) (ds:=[d]) (E:=E0) Qa3 (by show 1 ≤ 1000;decide) (.cons (hd.same (s0.trans s1)) .nil) (fun h=>by cases h) fun H' y dx hy sm e=>?_
  rw [Quf] at e
  exact k H' y dx ln lp (s0.free (s1.free hy)) hln (s0.free hlp) (s0.trans (s1.trans sm)) e (sm _ _ (s1 _ _ Qa3)) (sm _ _ Qa3)
def Qvj (a:Ad):Sp:=fun vs H Q _=>∃ m ln b d,vs = [.str m, .ref ln, .ref b]∧Qbb a.c_Node H b d∧∀ H' y dx lp,H y = none→H lp = none→Same H H'→H' y = some (.ins a.c_Node dx (nf "modified" m ln lp ⟨false,d.d + 1,d.lv,d.nn + 1⟩))→H' lp = some (.lst [.ref b])→Q (.ref y) H'
theorem Qxn (T:Txt K mg a):FnOk P w K mg base CX0 5 a.f_qaf a.fd_qaf ["modifier", "rank", "function"] (Qvj a):=by
 refine T.F_qaf.ok Qwl (fun vs H Q E h=>?_) (fun cdv A outer s H vs Q E hr h=>?_)
 ·obtain ⟨m,ln,b,d,rfl,_⟩:=h
  rfl
 ·obtain ⟨m,ln,b,d,rfl,hd,k⟩:=h
  refine ⟨_,Qa4 (Qae (Qca T.mk_Node (Qhd T) hr rfl T.g_Node T.B_qaw .nil Qam (Qa0 Qad (Qa0 (pv 0) (Qa0 (pv 1) (Qa0 (Qc0 (Qa0 (pv 2) Qa5)) Qa5)))))),?_⟩
  refine ⟨_,rfl,_,rfl,_,rfl,(by show 1 ≤ sizeLine;decide),fun lp hlp=>?_⟩
  have s1:Same H (upd H lp (.lst [.ref b])):=Qaj (fun _ _ e=>e) hlp
  show ∀ (x dx:Addr),upd H lp (.lst [.ref b]) x = none→upd H lp (.lst [.ref b]) dx = none→dx ≠ x→_
  refine Qcl T (parts:=[b]) (ds:=[d]) (E:=E0) Qa3 (by show 1 ≤ 1000;decide) (.cons (hd.same s1) .nil) (fun h=>by cases h) fun H' y dx hy sm e=>?_
  rw [Qxw] at e
  exact k H' y dx lp (s1.free hy) hlp (s1.trans sm) e (sm _ _ Qa3)
def lV:Option Addr→V
 | none=>.non
 | some l=>.ref l
def spApp (a:Ad):Sp:=fun vs H Q _=>∃ (l:Option Addr) (f r:Addr) (ds:List Ms),vs = [lV l, .ref f, .ref r]∧Paired (Qbb a.c_Node H) (l.toList ++ [f,r]) ds∧∀ H' y dx ln lp,H y = none→H ln = none→H lp = none→Same H H' →
 H' y = some (.ins a.c_Node dx (nf (if l.isSome then "two" else "one") "" ln lp (mkM (if l.isSome then "two" else "one") ds)))→H' ln = some (.lst [])→H' lp = some (.lst ((l.toList ++ [f,r]).map V.ref))→Q (.ref y) H'
theorem Qxm (T:Txt K mg a):FnOk P w K mg base CX0 5 a.f_qag a.fd_qag ["left", "function", "right"] (spApp a):=by
 refine T.F_qag.ok Qwk (fun vs H Q E h=>?_) (fun cdv A outer s H vs Q E hr h=>?_)
 ·obtain ⟨l,f,r,ds,rfl,_⟩:=h
  rfl
 ·obtain ⟨l,f,r,ds,rfl,hd,k⟩:=h
  refine ⟨_,Qa2 (Qb6 (Qix (Qx1 (pv 0))) (Qa4 (Qae (Qca T.mk_Node (Qhd T) hr rfl T.g_Node T.B_qaw .nil Qam (Qa0 Qad (Qa0 Qad (Qa0 (Qc0 Qa5) (Qa0 (Qc0 (Qa0 (pv 1) (Qa0 (pv 2) Qa5))) Qa5))))))) Qak)
   (Qa4 (Qae (Qca T.mk_Node (Qhd T) hr rfl T.g_Node T.B_qaw .nil Qam (Qa0 Qad (Qa0 Qad (Qa0 (Qc0 Qa5) (Qa0 (Qc0 (Qa0 (pv 0) (Qa0 (pv 1) (Qa0 (pv 2) Qa5)))) Qa5))))))),?_⟩
  cases l with
  | none =>
   refine ⟨_,rfl,_,rfl,iteT ⟨Nat.zero_le _,fun ln hln=>⟨_,rfl,_,rfl,(by show 2 ≤ sizeLine;decide),fun lp hlp=>?_⟩⟩⟩
   have s0:Same H (upd H ln (.lst [])):=Qaj (fun _ _ e=>e) hln
   have s1:Same (upd H ln (.lst [])) (upd (upd H ln (.lst [])) lp (.lst [.ref f, .ref r])):=Qaj (fun _ _ e=>e) hlp
   show ∀ (x dx:Addr),upd (upd H ln (.lst [])) lp (.lst [.ref f, .ref r]) x = none→upd (upd H ln (.lst [])) lp (.lst [.ref f, .ref r]) dx = none→dx ≠ x→_
   refine Qcl T (parts:=[f,r]) (ds:=ds) (E:=E0) Qa3 (by show 2 ≤ 1000;decide) (Qav (fun _ _ h=>h.same (s0.trans s1)) hd) (fun h=>by subst h;cases hd) fun H' y dx hy sm e=>?_
   exact k H' y dx ln lp (s0.free (s1.free hy)) hln (s0.free hlp) (s0.trans (s1.trans sm)) e (sm _ _ (s1 _ _ Qa3)) (sm _ _ Qa3)
  | some l =>
   refine ⟨_,rfl,_,rfl,iteF ⟨Nat.zero_le _,fun ln hln=>⟨_,rfl,_,rfl,_,rfl,(by show 3 ≤ sizeLine;decide),fun lp hlp=>?_⟩⟩⟩
   have s0:Same H (upd H ln (.lst [])):=Qaj (fun _ _ e=>e) hln
   have s1:Same (upd H ln (.lst [])) (upd (upd H ln (.lst [])) lp (.lst [.ref l, .ref f, .ref r])):=Qaj (fun _ _ e=>e) hlp
   show ∀ (x dx:Addr),upd (upd H ln (.lst [])) lp (.lst [.ref l, .ref f, .ref r]) x = none→upd (upd H ln (.lst [])) lp (.lst [.ref l, .ref f, .ref r]) dx = none→dx ≠ x→_
   refine Qcl T (parts:=[l,f,r]) (ds:=ds) (E:=E0) Qa3 (by show 3 ≤ 1000;decide) (Qav (fun _ _ h=>h.same (s0.trans s1)) hd) (fun h=>by subst h;cases hd) fun H' y dx hy sm e=>?_
   exact k H' y dx ln lp (s0.free (s1.free hy)) hln (s0.free hlp) (s0.trans (s1.trans sm)) e (sm _ _ (s1 _ _ Qa3)) (sm _ _ Qa3)
end
def Qbo:List (List Nat):=[[58,61],[60,61],[47,61],[40],[41],[123],[125],[59],[43],[45],[42],[60],[61]]
theorem two_mem {x:List Nat} (h:([[58,61],[60,61],[47,61]]:List (List Nat)).contains x = true):x ∈ Qbo:=by
 have:=List.contains_iff_mem.mp h
 simp only [List.mem_cons,List.not_mem_nil,or_false] at this
 rcases this with rfl | rfl | rfl <;> decide
theorem Qu7 {x:List Nat} (h:([[40],[41],[123],[125],[59],[43],[45],[42],[60],[61]]:List (List Nat)).contains x = true):x ∈ Qbo:=by
 have:=List.contains_iff_mem.mp h
 simp only [List.mem_cons,List.not_mem_nil,or_false] at this
 rcases this with rfl | rfl | rfl | rfl | rfl | rfl | rfl | rfl | rfl | rfl <;> decide
def Qsg:Vaarra.Tok→List Nat→Prop
 | .num n,x=>∃ y,y ≠ []∧y.length ≤ 19∧(∀ c ∈ y,Vaarra.digit c = true)∧((x = y∧n = (Vaarra.worth y:Nat)) ∨ (x = 95 :: y∧n = -((Vaarra.worth y:Nat):Int)))
 | .small s,x=>x = s∧∃ c r,s = c :: r∧Vaarra.small c = true
 | .great s,x=>x = s∧∃ c r,s = c :: r∧Vaarra.great c = true
 | .mod s,x=>x = 58 :: s∧Vaarra.modWords.contains s = true
 | .sign s,x=>x = s∧s ∈ Qbo
 | .fin,x=>x = []
theorem Qd4 {t:Vaarra.Tok} {x:List Nat} (h:Sp' t x):Qsg t x:=by
 rcases h with ⟨rfl,rfl⟩ | ⟨b,h⟩
 ·rfl
 cases b with
 | nil=>cases h
 | cons c r =>
  rw [Qbc] at h
  unfold Qch at h
  by_cases h2:Vaarra.digit c = true
  ·rw [if_pos h2] at h
   by_cases h3:Vaarra.isNumber ((c :: r).takeWhile Vaarra.digit) = true
   ·rw [if_pos h3] at h
    cases h
    exact ⟨_,by rw [List.takeWhile_cons,if_pos h2];simp,((Qcu _).mp h3).1,tw_all _, .inl ⟨rfl,rfl⟩⟩
   ·rw [if_neg h3] at h;cases h
  rw [if_neg h2] at h
  by_cases h4:c = 95∧(r.head?.map Vaarra.digit).getD false = true
  ·rw [if_pos h4] at h
   by_cases h5:(Vaarra.isNumber (r.takeWhile Vaarra.digit) && r.takeWhile Vaarra.digit != [48]) = true
   ·rw [if_pos h5] at h
    cases h
    rw [Bool.and_eq_true] at h5
    refine ⟨_,?_,((Qcu _).mp h5.1).1,tw_all _, .inr ⟨rfl,rfl⟩⟩
    cases r with
    | nil=>cases h4.2
    | cons d r=>rw [List.takeWhile_cons,if_pos (show Vaarra.digit d = true from h4.2)];simp
   ·rw [if_neg h5] at h;cases h
  rw [if_neg h4] at h
  by_cases h6:(Vaarra.small c || Vaarra.great c) = true
  ·rw [if_pos h6] at h
   by_cases h7 : 16 < ((c :: r).takeWhile Vaarra.inner).length
   ·rw [if_pos h7] at h;cases h
   ·rw [if_neg h7] at h
    have hi:=(Qjd h6).2.2.1
    have e:(c :: r).takeWhile Vaarra.inner = c :: r.takeWhile Vaarra.inner:=by rw [List.takeWhile_cons,if_pos hi]
    cases hs:Vaarra.small c
    case true=>rw [hs] at h;cases h;exact ⟨rfl,c,_,e,hs⟩
    case false=>rw [hs] at h;cases h;exact ⟨rfl,c,_,e,by rw [hs,Bool.false_or] at h6;exact h6⟩
  rw [if_neg h6] at h
  by_cases h8:c = 58∧(r.head?.map Vaarra.small).getD false = true
  ·rw [if_pos h8] at h
   by_cases h9:Vaarra.modWords.contains (r.takeWhile Vaarra.inner) = true
   ·rw [if_pos h9] at h;cases h;exact ⟨rfl,h9⟩
   ·rw [if_neg h9] at h;cases h
  rw [if_neg h8] at h
  unfold Vaarra.signAt at h
  by_cases q:([[58,61],[60,61],[47,61]]:List (List Nat)).contains ((c :: r).take 2) = true
  ·rw [if_pos q] at h;cases h;exact ⟨rfl,two_mem q⟩
  ·rw [if_neg q] at h
   by_cases q2:([[40],[41],[123],[125],[59],[43],[45],[42],[60],[61]]:List (List Nat)).contains ((c :: r).take 1) = true
   ·rw [if_pos q2] at h;cases h;exact ⟨rfl,Qu7 q2⟩
   ·rw [if_neg q2] at h;cases h
def Wf (t:Vaarra.Tok):Prop:=∃ x,Qsg t x
theorem Qhs {s:List Nat} (h:Wf (.sign s)):s ∈ Qbo:=let ⟨_,h⟩:=h;h.2
def kc:Vaarra.Tok→Nat
 | .num _=>1
 | .small _=>2
 | .great _=>3
 | .mod _=>4
 | .sign s=>if Vaarra.funSigns.contains s then 5 else if s = [40] then 6 else if s = [41] then 7 else if s = [123] then 8 else if s = [125] then 9 else if s = [59] then 10 else 11
 | .fin=>12
def ks:Nat→Str
 | 1 => "number" | 2 => "name" | 3 => "word" | 4 => "modifier" | 5 => "primitive" | 6 => "(" | 7 => ")" | 8 => "{" | 9 => "}" | 10 => ";" | 11 => ":=" | _ => "end"
theorem Qpj {t:Vaarra.Tok} (h:Wf t):Qet t = ks (kc t)∧1 ≤ kc t∧kc t ≤ 12:=by
 cases t with
 | num n=>exact ⟨rfl,by show 1 ≤ 1;omega,by show 1 ≤ 12;omega⟩
 | small s=>exact ⟨rfl,by show 1 ≤ 2;omega,by show 2 ≤ 12;omega⟩
 | great s=>exact ⟨rfl,by show 1 ≤ 3;omega,by show 3 ≤ 12;omega⟩
 | mod s=>exact ⟨rfl,by show 1 ≤ 4;omega,by show 4 ≤ 12;omega⟩
 | fin=>exact ⟨rfl,by show 1 ≤ 12;omega,by show 12 ≤ 12;omega⟩
 | sign s =>
  have:=Qhs h
  revert s
  have all:∀ s ∈ Qbo,Qet (.sign s) = ks (kc (.sign s))∧1 ≤ kc (.sign s)∧kc (.sign s) ≤ 12:=by decide
  intro s _ h
  exact all s h
theorem Qxz:∀ i,1 ≤ i→i ≤ 12→∀ j,1 ≤ j→j ≤ 12→ks i = ks j→i = j:=by
 have all:∀ i ∈ List.range 13,∀ j ∈ List.range 13,1 ≤ i→1 ≤ j→ks i = ks j→i = j:=by decide
 intro i h1 h2 j h3 h4 e
 exact all i (List.mem_range.mpr (by omega)) j (List.mem_range.mpr (by omega)) h1 h3 e
theorem Qf8 {t:Vaarra.Tok} (h:Wf t) {j:Nat} (h1 : 1 ≤ j) (h2:j ≤ 12):decide (V.str (Qet t) = V.str (ks j)) = decide (kc t = j):=by
 obtain ⟨e,a,b⟩:=Qpj h
 by_cases q:kc t = j
 ·rw [decide_eq_true q,decide_eq_true (by rw [e,q])]
 ·rw [decide_eq_false q,decide_eq_false fun z=>q (Qxz _ a b _ h1 h2 (by rw [← e];exact V.str.inj z))]
theorem Qgi {t:Vaarra.Tok}:kc t = 1 ↔ ∃ n,t = .num n:=by
 cases t <;> simp only [kc] <;> first | simp | skip
 split <;> (repeat' split) <;> simp
theorem Qeu {t:Vaarra.Tok}:kc t = 2 ↔ ∃ n,t = .small n:=by
 cases t <;> simp only [kc] <;> first | simp | skip
 split <;> (repeat' split) <;> simp
theorem Qfv {t:Vaarra.Tok}:kc t = 3 ↔ ∃ n,t = .great n:=by
 cases t <;> simp only [kc] <;> first | simp | skip
 split <;> (repeat' split) <;> simp
theorem Qpm {t:Vaarra.Tok}:kc t = 4 ↔ ∃ n,t = .mod n:=by
 cases t <;> simp only [kc] <;> first | simp | skip
 split <;> (repeat' split) <;> simp
theorem Qtf {t:Vaarra.Tok}:kc t = 12 ↔ t = .fin:=by
 cases t <;> simp only [kc] <;> first | simp | skip
 split <;> (repeat' split) <;> simp
theorem Qui {s:List Nat} {t:Vaarra.Tok} (h:Wf t) (hs:s ∈ Qbo) (hf:Vaarra.funSigns.contains s = false):kc t = kc (.sign s) ↔ t = .sign s:=by
 constructor
 ·intro e
  cases t with
  | sign s' =>
   have all:∀ s ∈ Qbo,Vaarra.funSigns.contains s = false→∀ s' ∈ Qbo,kc (.sign s') = kc (.sign s)→s' = s:=by decide
   rw [all s hs hf s' (Qhs h) e]
  | num n=>exact absurd e ((by decide:∀ s ∈ Qbo,¬ (1 = kc (.sign s))) s hs)
  | small n=>exact absurd e ((by decide:∀ s ∈ Qbo,¬ (2 = kc (.sign s))) s hs)
  | great n=>exact absurd e ((by decide:∀ s ∈ Qbo,¬ (3 = kc (.sign s))) s hs)
  | mod n=>exact absurd e ((by decide:∀ s ∈ Qbo,¬ (4 = kc (.sign s))) s hs)
  | fin=>exact absurd e ((by decide:∀ s ∈ Qbo,¬ (12 = kc (.sign s))) s hs)
 ·rintro rfl;rfl
theorem Qpl {t:Vaarra.Tok}:kc t = 5 ↔ ∃ s,t = .sign s∧Vaarra.funSigns.contains s = true:=by
 cases t with
 | num n=>exact ⟨fun h=>(nomatch h),fun h=>(by obtain ⟨_,h,_⟩:=h;cases h)⟩
 | small n=>exact ⟨fun h=>(nomatch h),fun h=>(by obtain ⟨_,h,_⟩:=h;cases h)⟩
 | great n=>exact ⟨fun h=>(nomatch h),fun h=>(by obtain ⟨_,h,_⟩:=h;cases h)⟩
 | mod n=>exact ⟨fun h=>(nomatch h),fun h=>(by obtain ⟨_,h,_⟩:=h;cases h)⟩
 | fin=>exact ⟨fun h=>(nomatch h),fun h=>(by obtain ⟨_,h,_⟩:=h;cases h)⟩
 | sign s =>
  show (if Vaarra.funSigns.contains s = true then 5 else _) = 5 ↔ _
  by_cases h:Vaarra.funSigns.contains s = true
  ·rw [if_pos h];exact ⟨fun _=>⟨s,rfl,h⟩,fun _=>rfl⟩
  ·rw [if_neg h]
   refine ⟨fun e=>?_,fun ⟨s',e,h2⟩=>by cases e;exact absurd h2 h⟩
   split at e
   ·cases e
   split at e
   ·cases e
   split at e
   ·cases e
   split at e
   ·cases e
   split at e <;> cases e
def Good:Vaarra.Toks→Prop
 | []=>False
 | q :: r=>(q.2 = .fin∧r = []) ∨ (q.2 ≠ .fin∧Good r)
theorem Good.tail {q:Nat × Vaarra.Tok} {r:Vaarra.Toks} (h:Good (q :: r)) (n:q.2 ≠ .fin):Good r:=by
 rcases h with h | h
 ·exact absurd h.1 n
 ·exact h.2
theorem Good.cons {ts:Vaarra.Toks} (h:Good ts):∃ q r,ts = q :: r:=by
 cases ts with
 | nil=>exact False.elim h
 | cons q r=>exact ⟨q,r,rfl⟩
theorem Qan {α : Type} {T:List α} {p:Nat} {q : α} {r:List α} (h:T.drop p = q :: r):T[p]? = some q∧T.drop (p + 1) = r:=by
 constructor
 ·have:=congrArg (fun l=>l[0]?) h
  simpa using this
 ·rw [← List.drop_drop,h];rfl
def rf (tl al:Addr) (p:Nat):List (Str × V):=[("tokens", .ref tl),("place", .int p),("atoms", .ref al)]
theorem tk_ne {C D dx dy tl al:Addr} {k x:Str} {i:Int} {p:Nat}:HO.ins C dx (tf k i x) ≠ HO.ins D dy (rf tl al p):=fun q=>by
 have:=congrArg (fun l=>l.head?.map Prod.fst) (HO.ins.inj q).2.2
 exact absurd this (by show ¬ (some (Str.ofString "kind") = some (Str.ofString "tokens"));decide)
def osV (os:List Nat):List V:=os.map fun (n:Nat)=>V.int n
structure Rd (a:Ad) (H:Hp) (r tl al:Addr) (as:List Addr) (os:List Nat) (T:Vaarra.Toks) (p:Nat):Prop where
 ob:∃ dx,H r = some (.ins a.c_Reader dx (rf tl al p))
 ls:H tl = some (.lst (as.map V.ref))
 tk:Qb2 a.c_Token H as T
 sz:T.length ≤ 2049
 la:H al = some (.lst (osV os))
 ne:tl ≠ al
def Far (r al b:Addr):Prop:=b ≠ r∧b ≠ al
def Kept (r al:Addr) (H H':Hp):Prop:=∀ b o,H b = some o→Far r al b→H' b = some o
theorem Kept.refl (r al:Addr) (H:Hp):Kept r al H H:=fun _ _ e _=>e
theorem Kept.trans {r al:Addr} {H H1 H2:Hp} (h1:Kept r al H H1) (h2:Kept r al H1 H2):Kept r al H H2:=fun b o e n=>h2 b o (h1 b o e n) n
theorem Same.kept {r al:Addr} {H H':Hp} (h:Same H H'):Kept r al H H':=fun b o e _=>h b o e
theorem Kept.free {r al:Addr} {H H':Hp} {b:Addr} (h:Kept r al H H') (n:Far r al b) (e:H' b = none):H b = none:=by
 cases q:H b with
 | none=>rfl
 | some o=>rw [h b o q n] at e;cases e
theorem Rd.far {a:Ad} {H:Hp} {r tl al b:Addr} {as:List Addr} {os:List Nat} {T:Vaarra.Toks} {p:Nat} (R:Rd a H r tl al as os T p) (h:H b = none):Far r al b:=by
 obtain ⟨dx,hr⟩:=R.ob
 exact ⟨fun q=>(by rw [q,hr] at h;cases h),fun q=>(by rw [q,R.la] at h;cases h)⟩
theorem Rd.far_ls {a:Ad} {H:Hp} {r tl al:Addr} {as:List Addr} {os:List Nat} {T:Vaarra.Toks} {p:Nat} (R:Rd a H r tl al as os T p):Far r al tl:=by
 obtain ⟨dx,hr⟩:=R.ob
 exact ⟨Qc2 R.ls hr (by intro q;cases q),R.ne⟩
theorem Rd.far_tk {a:Ad} {H:Hp} {r tl al y dx:Addr} {as:List Addr} {os:List Nat} {T:Vaarra.Toks} {p:Nat} {k x:Str} {i:Int} (R:Rd a H r tl al as os T p) (h:H y = some (.ins a.c_Token dx (tf k i x))):Far r al y:=by
 obtain ⟨dr,hr⟩:=R.ob
 exact ⟨Qc2 h hr tk_ne,Qc2 h R.la (by intro q;cases q)⟩
theorem Kept.free' {a:Ad} {r tl al b:Addr} {as:List Addr} {os:List Nat} {T:Vaarra.Toks} {p:Nat} {H H':Hp} (k:Kept r al H H') (R:Rd a H' r tl al as os T p) (h:H' b = none):H b = none:=k.free (R.far h) h
theorem Rd.moved {a:Ad} {H H':Hp} {r tl al:Addr} {as:List Addr} {os os':List Nat} {T:Vaarra.Toks} {p p':Nat} (h:Rd a H r tl al as os T p) (k:Kept r al H H') (e:∃ dx,H' r = some (.ins a.c_Reader dx (rf tl al p'))) (e':H' al = some (.lst (osV os'))):Rd a H' r tl al as os' T p' :=
 ⟨e,k _ _ h.ls h.far_ls,Qav (fun x y ⟨dx,z,h1,h2⟩=>⟨dx,z,k _ _ h1 (h.far_tk h1),h2⟩) h.tk,h.sz,e',h.ne⟩
theorem Rd.same {a:Ad} {H H':Hp} {r tl al:Addr} {as:List Addr} {os:List Nat} {T:Vaarra.Toks} {p:Nat} (h:Rd a H r tl al as os T p) (k:Same H H'):Rd a H' r tl al as os T p:=by
 obtain ⟨dx,hr⟩:=h.ob
 exact h.moved (Same.kept k) ⟨dx,k _ _ hr⟩ (k _ _ h.la)
theorem Rd.os {a:Ad} {H:Hp} {r tl al:Addr} {as:List Addr} {os os':List Nat} {T:Vaarra.Toks} {p:Nat} (R:Rd a H r tl al as os T p) (e:os = os'):Rd a H r tl al as os' T p:=e ▸ R
def TkAt (a:Ad) (H:Hp) (y:Addr) (q:Nat × Vaarra.Tok) (x:List Nat):Prop:=(∃ dx,H y = some (.ins a.c_Token dx (tf (Qet q.2) q.1 (ss x))))∧Qsg q.2 x
theorem TkAt.wf {a:Ad} {H:Hp} {y:Addr} {q:Nat × Vaarra.Tok} {x:List Nat} (h:TkAt a H y q x):Wf q.2:=⟨x,h.2⟩
theorem TkAt.kept {a:Ad} {H H':Hp} {y r tl al:Addr} {as:List Addr} {os:List Nat} {T:Vaarra.Toks} {q:Nat × Vaarra.Tok} {x:List Nat} {p:Nat} (h:TkAt a H y q x) (R:Rd a H r tl al as os T p) (k:Kept r al H H'):TkAt a H' y q x:=by
 obtain ⟨⟨dx,h1⟩,h2⟩:=h
 exact ⟨⟨dx,k _ _ h1 (R.far_tk h1)⟩,h2⟩
theorem Rd.tok {a:Ad} {H:Hp} {r tl al:Addr} {as:List Addr} {os:List Nat} {T:Vaarra.Toks} {p i:Nat} {q:Nat × Vaarra.Tok} (h:Rd a H r tl al as os T p) (e:T[i]? = some q):∃ y x,(as.map V.ref)[i]? = some (.ref y)∧TkAt a H y q x:=by
 obtain ⟨y,h1,dx,x,h2,h3⟩:=h.tk.get e
 exact ⟨y,x,by rw [List.getElem?_map,h1];rfl,⟨dx,h2⟩,Qd4 h3⟩
section
variable {P : Program} {w : World} {K : PySem.W.Frag} {mg : Str → Option Value} {base : Heap} {a : Ad}
def Qty (a:Ad):Sp:=fun vs H Q _=>∃ y i n x,vs = [.ref y]∧TkAt a H y (i, .num n) x∧Q (.int n) H
theorem at0 {c:Nat} {r:List Nat}:atI (ss (c :: r)).cps.toList 0 = some c:=Qji (src:=c :: r) (p:=0) rfl
theorem Qt9 (T:Txt K mg a):FnOk P w K mg base CX0 1 a.f_qbb a.fd_qbb ["token"] (Qty a):=by
 refine T.F_qbb.ok Qw8 (fun vs H Q E h=>?_) (fun cdv A outer s H vs Q E hr h=>?_)
 ·obtain ⟨y,i,n,x,rfl,_⟩:=h
  rfl
 ·obtain ⟨y,i,n,x,rfl,⟨⟨dx,hy⟩,z,hz,hl,hd,hx⟩,k⟩:=h
  refine ⟨_,Qa2 (Qb6 (Qac Qc1 (Qcd Qev (Qab (pv 0) (by rfl)) Qai (fun _ _=>rfl)) Qad (Qap _))
    (Qa4 (Qae (Qr8 Ql3 (Qcz Qdx (by rfl) T.z_int Qqh (Qa0 (Qct Qh9 (Qab (pv 0) (by rfl)) (Qc9 Qai) Qov) Qa5))))) Qak)
   (Qa4 (Qae (Qcz Qdx (by rfl) T.z_int Qqh (Qa0 (Qab (pv 0) (by rfl)) Qa5)))),?_⟩
  have c:=T.cl_Token
  have n1:=T.n_Token_spelling
  obtain ⟨d,z',rfl⟩ : ∃ d z',z = d :: z':=by cases z with | nil=>exact absurd rfl hz | cons d z'=>exact ⟨d,z',rfl⟩
  have hdd:=hd d (List.mem_cons_self)
  have d95:d ≠ 95:=by intro q;rw [q] at hdd;cases hdd
  rcases hx with ⟨rfl,rfl⟩ | ⟨rfl,rfl⟩
  ·refine ⟨_,rfl,y,_,dx,_,_,rfl,hy,c,n1,rfl,_,_,d,rfl,rfl,?_,at0,rfl,_,rfl,?_⟩
   ·rw [Qb1];exact Nat.le_trans hl (by decide)
   rw [Qlw,decide_eq_false d95]
   refine iteF ⟨_,rfl,y,_,dx,_,_,rfl,hy,c,n1,rfl,_,_,rfl,Qpt hd hz (by omega),?_,k⟩
   rw [Qb1];omega
  ·refine ⟨_,rfl,y,_,dx,_,_,rfl,hy,c,n1,rfl,_,_,95,rfl,rfl,?_,at0,rfl,_,rfl,?_⟩
   ·rw [Qb1,List.length_cons];exact Nat.le_trans (Nat.succ_le_succ hl) (by decide)
   rw [Qlw,decide_eq_true rfl]
   refine iteT ⟨_,rfl,y,_,dx,_,_,rfl,hy,c,n1,rfl,_,rfl,_,rfl,?_,?_⟩
   ·rw [Qb1,List.length_cons];exact Nat.le_trans (Nat.succ_le_succ hl) (by decide)
   rw [show cutS (ss (95 :: d :: z')) (some 1) none = ss (d :: z') from Qs6 (95 :: d :: z') 1]
   refine ⟨_,_,rfl,Qpt hd hz (by omega),?_,_,rfl,k⟩
   rw [Qb1];omega
end
section
variable {P : Program} {w : World} {K : PySem.W.Frag} {mg : Str → Option Value} {base : Heap} {a : Ad}
def Qvd (a:Ad):Sp:=fun vs H Q _=>∃ x dx tl,vs = [.ref x, .ref tl]∧H x = some (.ins a.c_Reader dx [])∧∀ H' al,H al = none→H' x = some (.ins a.c_Reader dx (rf tl al 0))→H' al = some (.lst [])→(∀ b o,H b = some o→b ≠ x→H' b = some o)→Q .non H'
theorem Qxh (T:Txt K mg a):FnOk P w K mg base CX0 1 a.f_qan a.fd_qan ["self", "tokens"] (Qvd a):=by
 refine T.F_qan.ok Qwg (fun vs H Q E h=>?_) (fun cdv A outer s H vs Q E hr h=>?_)
 ·obtain ⟨x,dx,tl,rfl,_⟩:=h
  rfl
 ·obtain ⟨x,dx,tl,rfl,hx,k⟩:=h
  refine ⟨_,Qa2 (Qbu (pv 0) (pv 1) rfl) (Qa2 (Qbu (pv 0) Qai rfl) (Qa4 (Qbu (pv 0) (Qc0 Qa5) rfl))),?_⟩
  have c:=T.cl_Reader
  refine ⟨_,rfl,_,rfl,x,_,dx,_,rfl,hx,c,T.n_Reader_tokens,(by show 0 < 1000;decide),?_⟩
  refine ⟨_,rfl,x,_,dx,_,rfl,Qa3,c,T.n_Reader_place,(by show 1 < 1000;decide),?_⟩
  refine ⟨Nat.zero_le _,fun al hal=>?_⟩
  have nx:x ≠ al:=fun q=>by rw [← q,Qa3] at hal;cases hal
  have hal0:H al = none:=by rw [Qa6 (Ne.symm nx),Qa6 (Ne.symm nx)] at hal;exact hal
  refine ⟨_,rfl,x,_,dx,_,rfl,(by rw [Qa6 nx,Qa3]),c,T.n_Reader_atoms,(by show 2 < 1000;decide),?_⟩
  exact k _ al hal0 (by rw [Qa3];rfl) (by rw [Qa6 (Ne.symm nx),Qa3]) fun b o e n=>by rw [Qa6 n,Qa6 (Qa7 e hal0),Qa6 n,Qa6 n];exact e
def Ql8 (a:Ad):Sp:=fun vs H Q _=>∃ r tl al as os T p q ts,vs = [.ref r]∧Rd a H r tl al as os T p∧T.drop p = q :: ts∧(Wf q.2→Q (.str (Qet q.2)) H)
theorem Qb4 (T:Txt K mg a):FnOk P w K mg base CX0 1 a.f_qt a.fd_qt ["self"] (Ql8 a):=by
 refine T.F_qt.ok sc_qt (fun vs H Q E h=>?_) (fun cdv A outer s H vs Q E hr h=>?_)
 ·obtain ⟨r,tl,al,as,os,T',p,q,ts,rfl,_⟩:=h
  rfl
 ·obtain ⟨r,tl,al,as,os,T',p,q,ts,rfl,R,hq,k⟩:=h
  refine ⟨_,Qa4 (Qae (Qab (Qcd Qbw (Qab (pv 0) (by rfl)) (Qab (pv 0) (by rfl)) (fun _ _=>rfl)) (by rfl))),?_⟩
  obtain ⟨dx,hr⟩:=R.ob
  obtain ⟨y,x,h1,⟨dy,h2⟩,h3⟩:=R.tok (Qan hq).1
  refine ⟨_,rfl,r,_,dx,_,_,rfl,hr,T.cl_Reader,T.n_Reader_tokens,rfl,_,rfl,r,_,dx,_,_,rfl,hr,T.cl_Reader,T.n_Reader_place,rfl,?_⟩
  exact ⟨tl,_,_,_,rfl,rfl,SqL.of R.ls,Qcq h1,y,_,dy,_,_,rfl,h2,T.cl_Token,T.n_Token_kind,rfl,k ⟨x,h3⟩⟩
def Qva (a:Ad):Sp:=fun vs H Q _=>∃ r tl al as os T p q ts,vs = [.ref r]∧Rd a H r tl al as os T p∧T.drop p = q :: ts ∧
 ∀ H' y x,Kept r al H H'→Rd a H' r tl al as os T (p + 1)→TkAt a H' y q x→Q (.ref y) H'
theorem Qeh (T:Txt K mg a):FnOk P w K mg base CX0 1 a.f_qal a.fd_qal ["self"] (Qva a):=by
 refine T.F_qal.ok Qsy (fun vs H Q E h=>?_) (fun cdv A outer s H vs Q E hr h=>?_)
 ·obtain ⟨r,tl,al,as,os,T',p,q,ts,rfl,_⟩:=h
  rfl
 ·obtain ⟨r,tl,al,as,os,T',p,q,ts,rfl,R,hq,k⟩:=h
  have nd:=Qsy.nd
  refine ⟨_,(Qa2 (Qao (i:=1) nd rfl (Or.inl rfl) (Qcd Qbw (Qab (pv 0) (by rfl)) (Qab (pv 0) (by rfl)) (fun _ _=>rfl)))
   (Qa2 (Qot (pv 0) Qai Qy7) (Qa4 (Qae (pv 1))))),?_⟩
  obtain ⟨dx,hr⟩:=R.ob
  obtain ⟨y,x,h1,h2⟩:=R.tok (Qan hq).1
  refine ⟨_,rfl,r,_,dx,_,_,rfl,hr,T.cl_Reader,T.n_Reader_tokens,rfl,_,rfl,r,_,dx,_,_,rfl,hr,T.cl_Reader,T.n_Reader_place,rfl,?_⟩
  refine ⟨tl,_,_,_,rfl,rfl,SqL.of R.ls,Qcq h1,?_⟩
  refine ⟨_,rfl,r,_,dx,_,_,rfl,hr,T.cl_Reader,T.n_Reader_place,rfl,_,_,rfl,rfl,dx,_,hr,(by show 3 < 1000;decide),_,rfl,?_⟩
  have kp:Kept r al H (upd H r (.ins a.c_Reader dx (putF "place" (V.int ((p:Int) + 1)) (rf tl al p)))):=fun b o e n=>by rw [Qa6 n.1];exact e
  refine k _ y x kp (R.moved kp ⟨dx,?_⟩ (by rw [Qa6 (Qc2 R.la hr (by intro q;cases q))];exact R.la)) (h2.kept R kp)
  rw [Qa3]
  show some (HO.ins a.c_Reader dx [("tokens", .ref tl),("place", .int ((p:Int) + 1)),("atoms", .ref al)]) = some (HO.ins a.c_Reader dx [("tokens", .ref tl),("place", .int ((p + 1:Nat):Int)),("atoms", .ref al)])
  rw [show (p:Int) + 1 = ((p + 1:Nat):Int) by omega]
def Qtv (K:PySem.W.Frag) (a:Ad):Sp:=fun vs H Q E=>∃ r tl al as os T p q ts j,vs = [.ref r, .str (ks j)]∧1 ≤ j∧j ≤ 12∧Rd a H r tl al as os T p∧T.drop p = q :: ts ∧
 (Wf q.2→kc q.2 = j→∀ H' y x,Kept r al H H'→Rd a H' r tl al as os T (p + 1)→TkAt a H' y q x→Q (.ref y) H')∧(Wf q.2→kc q.2 ≠ j→∀ cls d H',EW K a.c_Refused 3 q.1 cls d H'→E cls d H')
theorem Qbe (T:Txt K mg a):FnOk P w K mg base (CX1 P w) 4 a.f_qr a.fd_qr ["self", "kind"] (Qtv K a):=by
 refine T.F_qr.okX sc_qr (fun vs H Q E h=>?_) (fun cdv A outer s H vs Q E hr h=>?_)
 ·obtain ⟨r,tl,al,as,os,T',p,q,ts,j,rfl,_⟩:=h
  rfl
 ·obtain ⟨r,tl,al,as,os,T',p,q,ts,j,rfl,j1,j2,R,hq,k1,k2⟩:=h
  refine ⟨_,Qa2 (Qb6 (Qac op_ne (Qay (pv 0) T.cl_Reader T.m_qt (Qb4 T) (hr.mono (by decide)) T.B_qt .nil Qam) (pv 1) (Qap _))
    (Qa4 (Qc8 rfl Qc7 T.em_SyntaxFault (Qx4 T) hr (by rfl) T.g_SyntaxFault T.B_qn (Qab (Qcd Qbw (Qab (pv 0) (by rfl)) (Qab (pv 0) (by rfl)) (fun _ _=>rfl)) (by rfl)))) Qak)
   (Qa4 (Qae (Qay (pv 0) T.cl_Reader T.m_qal (Qeh T) (hr.mono (by decide)) T.B_qal .nil Qam))),?_⟩
  obtain ⟨dx,hr'⟩:=R.ob
  obtain ⟨y,x,h1,⟨dy,h2⟩,h3⟩:=R.tok (Qan hq).1
  have wf:Wf q.2:=⟨x,h3⟩
  refine ⟨_,rfl,r,dx,_,rfl,hr',rfl,r,tl,al,as,os,T',p,q,ts,rfl,R,hq,fun _=>⟨_,rfl,rfl,_,rfl,?_⟩⟩
  rw [Qf8 wf j1 j2]
  by_cases e:kc q.2 = j
  ·rw [decide_eq_true e]
   exact iteF ⟨_,rfl,r,dx,_,rfl,hr',rfl,r,tl,al,as,os,T',p,q,ts,rfl,R,hq,k1 wf e⟩
  ·rw [decide_eq_false e]
   refine iteT ⟨_,rfl,r,_,dx,_,_,rfl,hr',T.cl_Reader,T.n_Reader_tokens,rfl,_,rfl,r,_,dx,_,_,rfl,hr',T.cl_Reader,T.n_Reader_place,rfl,?_⟩
   refine ⟨tl,_,_,_,rfl,rfl,SqL.of R.ls,Qcq h1,y,_,dy,_,_,rfl,h2,T.cl_Token,T.n_Token_position,rfl,?_⟩
   exact Qbk (Qcy T) (k2 wf e)
end
def New (H H':Hp):Hp:=fun b=>match H b with
 | none=>H' b
 | some _=>none
theorem New.at {H H':Hp} {b:Addr} {o:HO} (h0:H b = none) (h1:H' b = some o):New H H' b = some o:=by unfold New;rw [h0];exact h1
theorem New.get {H H':Hp} {b:Addr} {o:HO} (h:New H H' b = some o):H b = none∧H' b = some o:=by
 unfold New at h
 cases q:H b with
 | none=>rw [q] at h;exact ⟨rfl,h⟩
 | some o=>rw [q] at h;cases h
theorem New.sub {H H':Hp}:Same (New H H') H':=fun b o h=>(New.get h).2
def modW:Vaarra.Mod→List Nat
 | .fold=>Vaarra.mFold
 | .scan=>Vaarra.mScan
 | .table=>Vaarra.mTable
 | .swap=>Vaarra.mSwap
 | .at_ _=>Vaarra.mAt
def modN:Vaarra.Mod→List V
 | .at_ k=>[.int k]
 | _=>[]
mutual
def lvF:Vaarra.Fun→Nat
 | .prim _ _=>1
 | .given _ _=>1
 | .body e _=>lvE e + 1
 | .mod _ f=>lvF f
def lvE:Vaarra.Expr→Nat
 | .nums _=>1
 | .name _ _=>1
 | .one f a=>max (lvF f) (lvE a)
 | .two a f b=>max (if Vaarra.works a then lvE a + 1 else lvE a) (max (lvF f) (lvE b))
end
mutual
def ndF:Vaarra.Fun→Nat
 | .prim _ _=>1
 | .given _ _=>1
 | .body e _=>ndE e + 1
 | .mod _ f=>ndF f + 1
def ndE:Vaarra.Expr→Nat
 | .nums _=>1
 | .name _ _=>1
 | .one f a=>ndF f + ndE a + 1
 | .two a f b=>ndE a + (ndF f + ndE b) + 1
end
def msF (f:Vaarra.Fun):Ms:=⟨false,Vaarra.funDepth f,lvF f,ndF f⟩
def msE (e:Vaarra.Expr):Ms:=⟨Vaarra.works e,Vaarra.exprDepth e,lvE e,ndE e⟩
mutual
def EAt (C:Addr) (G:Hp):Vaarra.Expr→Addr→Prop
 | .nums l,b=>∃ dx ln lp,G b = some (.ins C dx (nf "numbers" "" ln lp m1))∧G ln = some (.lst (l.map V.int))∧G lp = some (.lst [])
 | .name x _,b=>∃ dx ln lp,G b = some (.ins C dx (nf "name" (ss x) ln lp m1))∧G ln = some (.lst [])∧G lp = some (.lst [])
 | .one f e,b=>∃ dx ln lp bf be,G b = some (.ins C dx (nf "one" "" ln lp (msE (.one f e))))∧G ln = some (.lst [])∧G lp = some (.lst [.ref bf, .ref be])∧FAt C G f bf∧EAt C G e be
 | .two e f g,b=>∃ dx ln lp be bf bg,G b = some (.ins C dx (nf "two" "" ln lp (msE (.two e f g))))∧G ln = some (.lst [])∧G lp = some (.lst [.ref be, .ref bf, .ref bg])∧EAt C G e be∧FAt C G f bf∧EAt C G g bg
def FAt (C:Addr) (G:Hp):Vaarra.Fun→Addr→Prop
 | .prim x _,b=>∃ dx ln lp,G b = some (.ins C dx (nf "primitive" (ss x) ln lp m1))∧G ln = some (.lst [])∧G lp = some (.lst [])
 | .given x _,b=>∃ dx ln lp,G b = some (.ins C dx (nf "given" (ss x) ln lp m1))∧G ln = some (.lst [])∧G lp = some (.lst [])
 | .body e n,b=>∃ dx ln lp be,G b = some (.ins C dx (nf "body" "" ln lp (msF (.body e n))))∧G ln = some (.lst [])∧G lp = some (.lst [.ref be])∧EAt C G e be
 | .mod m f,b=>∃ dx ln lp bf,G b = some (.ins C dx (nf "modified" (ss (58 :: modW m)) ln lp (msF (.mod m f))))∧G ln = some (.lst (modN m))∧G lp = some (.lst [.ref bf])∧FAt C G f bf
end
mutual
theorem EAt.same {C:Addr} {G G':Hp} (s:Same G G'):∀ {e:Vaarra.Expr} {b:Addr},EAt C G e b→EAt C G' e b
 | .nums _,_,h=>by
  obtain ⟨dx,ln,lp,h1,h2,h3⟩:=h
  exact ⟨dx,ln,lp,s _ _ h1,s _ _ h2,s _ _ h3⟩
 | .name _ _,_,h=>by
  obtain ⟨dx,ln,lp,h1,h2,h3⟩:=h
  exact ⟨dx,ln,lp,s _ _ h1,s _ _ h2,s _ _ h3⟩
 | .one _ _,_,h=>by
  obtain ⟨dx,ln,lp,bf,be,h1,h2,h3,h4,h5⟩:=h
  exact ⟨dx,ln,lp,bf,be,s _ _ h1,s _ _ h2,s _ _ h3,FAt.same s h4,EAt.same s h5⟩
 | .two _ _ _,_,h=>by
  obtain ⟨dx,ln,lp,be,bf,bg,h1,h2,h3,h4,h5,h6⟩:=h
  exact ⟨dx,ln,lp,be,bf,bg,s _ _ h1,s _ _ h2,s _ _ h3,EAt.same s h4,FAt.same s h5,EAt.same s h6⟩
theorem FAt.same {C:Addr} {G G':Hp} (s:Same G G'):∀ {e:Vaarra.Fun} {b:Addr},FAt C G e b→FAt C G' e b
 | .prim _ _,_,h=>by
  obtain ⟨dx,ln,lp,h1,h2,h3⟩:=h
  exact ⟨dx,ln,lp,s _ _ h1,s _ _ h2,s _ _ h3⟩
 | .given _ _,_,h=>by
  obtain ⟨dx,ln,lp,h1,h2,h3⟩:=h
  exact ⟨dx,ln,lp,s _ _ h1,s _ _ h2,s _ _ h3⟩
 | .body _ _,_,h=>by
  obtain ⟨dx,ln,lp,be,h1,h2,h3,h4⟩:=h
  exact ⟨dx,ln,lp,be,s _ _ h1,s _ _ h2,s _ _ h3,EAt.same s h4⟩
 | .mod _ _,_,h=>by
  obtain ⟨dx,ln,lp,be,h1,h2,h3,h4⟩:=h
  exact ⟨dx,ln,lp,be,s _ _ h1,s _ _ h2,s _ _ h3,FAt.same s h4⟩
end
theorem EAt.depth {C:Addr} {G:Hp} {e:Vaarra.Expr} {b:Addr} (h:EAt C G e b):Qbb C G b (msE e):=by
 cases e with
 | nums l=>obtain ⟨dx,ln,lp,h1,_⟩:=h;exact ⟨dx,_,_,_,_,h1,rfl⟩
 | name x p=>obtain ⟨dx,ln,lp,h1,_⟩:=h;exact ⟨dx,_,_,_,_,h1,rfl⟩
 | one f a=>obtain ⟨dx,ln,lp,_,_,h1,_⟩:=h;exact ⟨dx,_,_,_,_,h1,rfl⟩
 | two a f b=>obtain ⟨dx,ln,lp,_,_,_,h1,_⟩:=h;exact ⟨dx,_,_,_,_,h1,rfl⟩
theorem FAt.depth {C:Addr} {G:Hp} {e:Vaarra.Fun} {b:Addr} (h:FAt C G e b):Qbb C G b (msF e):=by
 cases e with
 | prim l n=>obtain ⟨dx,ln,lp,h1,_⟩:=h;exact ⟨dx,_,_,_,_,h1,rfl⟩
 | given x p=>obtain ⟨dx,ln,lp,h1,_⟩:=h;exact ⟨dx,_,_,_,_,h1,rfl⟩
 | body f a=>obtain ⟨dx,ln,lp,_,h1,_⟩:=h;exact ⟨dx,_,_,_,_,h1,rfl⟩
 | mod a f=>obtain ⟨dx,ln,lp,_,h1,_⟩:=h;exact ⟨dx,_,_,_,_,h1,rfl⟩
def kl (j:Nat):List Nat:=(ks j).cps.toList
theorem ks_kl (j:Nat):ks j = ss (kl j):=rfl
theorem Qh4 {t:Vaarra.Tok} (h:Wf t):Vaarra.beginsOperand t = (kc t == 1 || kc t == 2 || kc t == 6):=by
 cases t with
 | sign s=>exact (by decide:∀ s ∈ Qbo,Vaarra.beginsOperand (.sign s) = (kc (.sign s) == 1 || kc (.sign s) == 2 || kc (.sign s) == 6)) s (Qhs h)
 | _=>rfl
theorem Qnv {t:Vaarra.Tok} (h:Wf t):Vaarra.beginsFun t = (kc t == 5 || kc t == 3 || kc t == 8):=by
 cases t with
 | sign s=>exact (by decide:∀ s ∈ Qbo,Vaarra.beginsFun (.sign s) = (kc (.sign s) == 5 || kc (.sign s) == 3 || kc (.sign s) == 8)) s (Qhs h)
 | _=>rfl
theorem Qut {f g:Nat→Bool} (h:∀ j ∈ List.range 13,1 ≤ j→f j = g j):∀ j,1 ≤ j→j ≤ 12→f j = g j:=fun j a b=>h j (List.mem_range.mpr (by omega)) a
theorem Qnn:∀ j,1 ≤ j→j ≤ 12→([[110,117,109,98,101,114],[110,97,109,101],[40]]:List (List Nat)).contains (kl j) = (j == 1 || j == 2 || j == 6):=Qut (by decide)
theorem Qy6:∀ j,1 ≤ j→j ≤ 12→([[112,114,105,109,105,116,105,118,101],[119,111,114,100],[123]]:List (List Nat)).contains (kl j) = (j == 5 || j == 3 || j == 8):=Qut (by decide)
theorem Qrs:∀ j,1 ≤ j→j ≤ 12→([[110,97,109,101],[119,111,114,100]]:List (List Nat)).contains (kl j) = (j == 2 || j == 3):=Qut (by decide)
section
variable {P : Program} {w : World} {K : PySem.W.Frag} {mg : Str → Option Value} {base : Heap} {a : Ad}
theorem Qh8 {σ : L2.St} {H:Hp} {F:Bool→Hp→Prop} {r tl al:Addr} {as:List Addr} {os:List Nat} {T:Vaarra.Toks} {p:Nat} {q:Nat × Vaarra.Tok} {ts:Vaarra.Toks} {E:XK} {z:Str} (j:Nat) (hσ : σ[0]? = some (some (.ref r))) (R:Rd a H r tl al as os T p) (hq:T.drop p = q :: ts) (j1 : 1 ≤ j) (j2:j ≤ 12) (hz:z = ks j)
  (h:F (decide (kc q.2 = j)) H):Qg0 (tOp rEq (Qm5 a.c_Reader "kind_here" (Ql8 a) [] E (tVar 0) tNil) (tC (.str z))) σ H F:=by
 obtain ⟨dx,hr⟩:=R.ob
 subst hz
 refine ⟨_,hσ,r,dx,_,rfl,hr,rfl,r,tl,al,as,os,T,p,q,ts,rfl,R,hq,fun wf=>⟨rfl,_,rfl,?_⟩⟩
 rw [Qf8 wf j1 j2];exact h
theorem Qk8 {σ : L2.St} {H:Hp} {F:Bool→Hp→Prop} {r tl al pl:Addr} {as:List Addr} {os:List Nat} {T:Vaarra.Toks} {p:Nat} {q:Nat × Vaarra.Tok} {ts:Vaarra.Toks} {E:XK} {L:List (List Nat)} {f:Nat→Bool} {neg:Bool} (hσ : σ[0]? = some (some (.ref r))) (R:Rd a H r tl al as os T p) (hq:T.drop p = q :: ts)
  (hL:SqT K H pl (L.map fun x=>V.str ⟨x.toArray⟩)) (hf:∀ j,1 ≤ j→j ≤ 12→L.contains (kl j) = f j)
  (h:F (if neg then !f (kc q.2) else f (kc q.2)) H):Qg0 (tOp (rIn K neg) (Qm5 a.c_Reader "kind_here" (Ql8 a) [] E (tVar 0) tNil) (tC (.ref pl))) σ H F:=by
 obtain ⟨dx,hr⟩:=R.ob
 refine ⟨_,hσ,r,dx,_,rfl,hr,rfl,r,tl,al,as,os,T,p,q,ts,rfl,R,hq,fun wf=>⟨pl,_,rfl, .inr hL,rfl,Qbd _,_,rfl,?_⟩⟩
 obtain ⟨e,b1,b2⟩:=Qpj wf
 rw [e,ks_kl,Qce,hf _ b1 b2];exact h
theorem Kept.upd {r al y:Addr} {H H':Hp} {o:HO} (k:Kept r al H H') (n:H y = none):Kept r al H (L2.upd H' y o):=fun b q e ne=>by rw [Qa6 (Qa7 e n)];exact k b q e ne
theorem Rd.upd {H H':Hp} {r tl al y:Addr} {as:List Addr} {os os':List Nat} {T:Vaarra.Toks} {p p':Nat} {o:HO} (R0:Rd a H r tl al as os T p) (k:Kept r al H H') (R:Rd a H' r tl al as os' T p') (n:H y = none):Rd a (L2.upd H' y o) r tl al as os' T p':=by
 obtain ⟨dx,hr⟩:=R.ob
 obtain ⟨d0,h0⟩:=R0.ob
 exact R0.moved (k.upd n) ⟨dx,by rw [Qa6 (Qa7 h0 n)];exact hr⟩ (by rw [Qa6 (Qa7 R0.la n)];exact R.la)
theorem Qe1 {i:Nat} {n:Int} {r:Vaarra.Toks}:Vaarra.numsOf ((i, .num n) :: r) = (n :: (Vaarra.numsOf r).1,(Vaarra.numsOf r).2):=rfl
theorem Qfu {q:Nat × Vaarra.Tok} {r:Vaarra.Toks} (h:kc q.2 ≠ 1):Vaarra.numsOf (q :: r) = ([],q :: r):=by
 obtain ⟨i,t⟩:=q
 cases t with
 | num n=>exact absurd rfl h
 | _=>rfl
def Qtx (a:Ad):Sp:=fun vs H Q _=>∃ r tl al as os T p,vs = [.ref r]∧Rd a H r tl al as os T p∧Good (T.drop p) ∧
 ∀ H' y p',p ≤ p'→T.drop p' = (Vaarra.numsOf (T.drop p)).2→Good (T.drop p')→Kept r al H H'→Rd a H' r tl al as os T p'→EAt a.c_Node (New H H') (.nums (Vaarra.numsOf (T.drop p)).1) y→Q (.ref y) H'
theorem Qgc (T:Txt K mg a):FnOk P w K mg base CX0 6 a.f_qf a.fd_qf ["self"] (Qtx a):=by
 refine T.F_qf.ok Qw2 (fun vs H Q E h=>?_) (fun cdv A outer s H vs Q E hr h=>?_)
 ·obtain ⟨r,tl,al,as,os,T',p,rfl,_⟩:=h
  rfl
 ·obtain ⟨r,tl,al,as,os,T',p,rfl,R,g,k⟩:=h
  have nd:=Qw2.nd
  refine ⟨_,Qa2 (Qao (i:=1) nd rfl (Or.inl rfl) (Qc0 Qa5))
   (Qa2 (Qd5 PassesOwn.never (Qac Qc1 (Qay (pv 0) T.cl_Reader T.m_qt (Qb4 T) (hr.mono (by decide)) T.B_qt .nil Qam) Qad (Qap _))
    (Qa4 (Qaw (Qj1 PySem.F.plainAttrs_list PySem.F.slot_list_append PySem.F.type_list_append Qcn (pv 1) (Qa0 (Qag (Qt9 T) (hr.mono (by decide)) rfl T.g_qbb T.F_qbb.kp T.B_qbb .nil Qam
     (Qa0 (Qay (pv 0) T.cl_Reader T.m_qal (Qeh T) (hr.mono (by decide)) T.B_qal .nil Qam) Qa5)) Qa5)))))
   (Qa4 (Qae (Qag (Qxl T) hr rfl T.g_qah T.F_qah.kp T.B_qah .nil Qam (Qa0 (pv 1) Qa5))))),?_⟩
  refine ⟨Nat.zero_le _,fun ln hln=>?_⟩
  obtain ⟨d0,hr0⟩:=R.ob
  have ner:Far r al ln:=R.far hln
  refine ⟨fun m σ H'=>∃ (p':Nat) (ns:List Int),p ≤ p'∧m = T'.length - p'∧σ = [some (.ref r),some (.ref ln)]∧Kept r al H H'∧Rd a H' r tl al as os T' p'∧Good (T'.drop p')∧H' ln = some (.lst (ns.map V.int))∧ns.length ≤ p'∧Vaarra.numsOf (T'.drop p) = (ns ++ (Vaarra.numsOf (T'.drop p')).1,(Vaarra.numsOf (T'.drop p')).2),
   ⟨_,p,[],Nat.le_refl _,rfl,rfl,(Kept.refl r al H).upd hln,R.upd (Kept.refl r al H) R hln,g,Qa3,Nat.zero_le _,rfl⟩,?_⟩
  rintro m σ H' ⟨p',ns,lep,rfl,rfl,kp,R',g',hl',sz,e⟩
  obtain ⟨q,ts,hq⟩:=g'.cons
  have lt:p' < T'.length:=by
   rcases Nat.lt_or_ge p' T'.length with h | h
   ·exact h
   ·rw [List.drop_eq_nil_of_le h] at hq;cases hq
  refine Qh8 1 rfl R' hq (by decide) (by decide) rfl ?_
  by_cases h1:kc q.2 = 1
  ·rw [decide_eq_true h1]
   refine iteT ⟨fun σ' H2=>∃ m',m' < T'.length - p'∧_,fun _ _ h=>h,?_⟩
   obtain ⟨dx,hr'⟩:=R'.ob
   obtain ⟨n,hn⟩:=Qgi.mp h1
   refine ⟨_,rfl, .inl ⟨rfl,_,SqL.of hl'⟩,_,rfl,r,dx,_,rfl,hr',rfl,r,tl,al,as,os,T',p',q,ts,rfl,R',hq,fun H2 y x k2 R2 tk=>?_⟩
   obtain ⟨i,t⟩:=q
   obtain rfl:t = .num n:=hn
   have hl2:H2 ln = some (.lst (ns.map V.int)):=k2 _ _ hl' ner
   refine ⟨y,i,n,x,rfl,tk,ln,_,_,rfl,rfl,hl2,?_,?_⟩
   ·rw [List.length_map];have:=R.sz;exact Nat.lt_of_le_of_lt (show ns.length ≤ 2049 by omega) (by decide)
   have k3:=kp.trans k2
   have e2:T'.drop (p' + 1) = ts:=(Qan hq).2
   refine ⟨_,(by omega:T'.length - (p' + 1) < T'.length - p'),p' + 1,ns ++ [n],by omega,rfl,rfl,k3.upd hln,R.upd k3 R2 hln,?_,?_,by rw [List.length_append,List.length_singleton];omega,?_⟩
   ·rw [e2];rw [hq] at g';exact g'.tail (by intro h;cases h)
   ·rw [Qa3,List.map_append];rfl
   ·rw [e,hq,Qe1,e2,List.append_assoc];rfl
  ·rw [decide_eq_false h1]
   refine iteF ⟨_,rfl,ln,rfl,fun H2 y dx lp hy hlp sm o1 o2=>?_⟩
   rw [hq,Qfu h1,List.append_nil] at e
   obtain ⟨d1,hr1⟩:=R'.ob
   have k3:=kp.trans (Same.kept sm)
   refine k H2 y p' lep (by rw [e,hq]) g' k3 (R'.same sm) ?_
   rw [e]
   have f:∀ {b:Addr},H' b = none→H b = none:=fun {b} hb=>kp.free (R'.far hb) hb
   exact ⟨dx,ln,lp,New.at (f hy) o1,New.at hln (sm _ _ hl'),New.at (f hlp) o2⟩
end
def Shr {A:Type} (rd:Vaarra.Read A):Prop:=∀ ts x ts',rd ts = .ok (x,ts')→ts'.length < ts.length
theorem Qax {A B:Type} {x:Except Vaarra.Fault A} {f:A→Except Vaarra.Fault B} {b:B} (h:x.bind f = .ok b):∃ a,x = .ok a∧f a = .ok b:=by
 cases x with
 | error e=>cases h
 | ok a=>exact ⟨a,rfl,h⟩
theorem Qbs {A B:Type} {f:A→B} {r:Except Vaarra.Fault (A × Vaarra.Toks)} {b:B} {ts:Vaarra.Toks} (h:Vaarra.also f r = .ok (b,ts)):∃ a,r = .ok (a,ts)∧b = f a:=by
 cases r with
 | error e=>cases h
 | ok z=>obtain ⟨a,t⟩:=z;cases h;exact ⟨a,rfl,rfl⟩
theorem Qgk {s:List Nat} {ts ts':Vaarra.Toks} {u:Unit} (h:Vaarra.expect s ts = .ok (u,ts')):ts'.length < ts.length∧ts' = ts.drop 1∧Vaarra.next ts = .sign s:=by
 unfold Vaarra.expect at h
 by_cases q:Vaarra.next ts = .sign s
 ·rw [if_pos q] at h
  cases h
  cases ts with
  | nil=>cases q
  | cons x r=>exact ⟨by simp,rfl,q⟩
 ·rw [if_neg q] at h;cases h
theorem Qhn {sub:Vaarra.Read Vaarra.Expr} (hs:Shr sub) (s:List Nat):Shr (Vaarra.closed sub s):=fun ts x ts' h=>by
 obtain ⟨⟨e,t1⟩,h1,h2⟩:=Qax h
 obtain ⟨⟨u,t2⟩,h3,h4⟩:=Qax h2
 cases h4
 have:=hs _ _ _ h1
 have:=(Qgk h3).1
 dsimp only at *
 omega
theorem Qlg:∀ ts:Vaarra.Toks,(Vaarra.numsOf ts).2.length ≤ ts.length
 | []=>Nat.le_refl _
 | q :: r=>by
  by_cases h:kc q.2 = 1
  ·obtain ⟨n,hn⟩:=Qgi.mp h
   obtain ⟨i,t⟩:=q
   obtain rfl:t = .num n:=hn
   rw [Qe1]
   exact Nat.le_trans (Qlg r) (Nat.le_succ _)
  ·rw [Qfu h];exact Nat.le_refl _
theorem Qg7 {sub:Vaarra.Read Vaarra.Expr} (hs:Shr sub):Shr (Vaarra.operand sub):=fun ts x ts' h=>by
 cases ts with
 | nil=>cases h
 | cons q r =>
  obtain ⟨i,t⟩:=q
  cases t with
  | num n =>
   have h:Except.ok (Vaarra.Expr.nums (n :: (Vaarra.numsOf r).1),(Vaarra.numsOf r).2) = Except.ok (x,ts'):=h
   cases h
   exact Nat.lt_succ_of_le (Qlg r)
  | small s=>cases h;exact Nat.lt_succ_self _
  | sign s =>
   have h:(if s = [40] then Vaarra.closed sub [41] r else Vaarra.wrong ((i, .sign s) :: r)) = .ok (x,ts'):=h
   by_cases q:s = [40]
   ·rw [if_pos q] at h;exact Nat.lt_succ_of_lt (Qhn hs _ _ _ _ h)
   ·rw [if_neg q] at h;cases h
  | great s=>cases h
  | mod s=>cases h
  | fin=>cases h
theorem Qsb {sub:Vaarra.Read Vaarra.Expr} (hs:Shr sub):Shr (Vaarra.atom sub):=fun ts x ts' h=>by
 cases ts with
 | nil=>cases h
 | cons q r =>
  obtain ⟨i,t⟩:=q
  cases t with
  | great s=>cases h;exact Nat.lt_succ_self _
  | sign s =>
   have h:(if Vaarra.funSigns.contains s then Except.ok (Vaarra.Fun.prim s i,r) else if s = [123] then Vaarra.also (fun e=>.body e i) (Vaarra.closed sub [125] r) else Vaarra.wrong ((i, .sign s) :: r)) = .ok (x,ts'):=h
   by_cases q:Vaarra.funSigns.contains s = true
   ·rw [if_pos q] at h;cases h;exact Nat.lt_succ_self _
   ·rw [if_neg q] at h
    by_cases q:s = [123]
    ·rw [if_pos q] at h
     obtain ⟨e,h1,_⟩:=Qbs h
     exact Nat.lt_succ_of_lt (Qhn hs _ _ _ _ h1)
    ·rw [if_neg q] at h;cases h
  | num s=>cases h
  | small s=>cases h
  | mod s=>cases h
  | fin=>cases h
theorem Qe2:∀ (n:Nat) (f:Vaarra.Fun) (ts:Vaarra.Toks) (x:Vaarra.Fun) (ts':Vaarra.Toks),Vaarra.mods n f ts = .ok (x,ts')→ts'.length ≤ ts.length
 | 0,_,_,_,_,h=>by cases h
 | n + 1,f,ts,x,ts',h=>by
  unfold Vaarra.mods at h
  split at h
  ·rename_i y hy
   have d1:(ts.drop 1).length ≤ ts.length:=by simp
   have d2:(ts.drop 2).length ≤ ts.length:=by simp
   split at h
   ·exact Nat.le_trans (Qe2 n _ _ _ _ h) d1
   split at h
   ·exact Nat.le_trans (Qe2 n _ _ _ _ h) d1
   split at h
   ·exact Nat.le_trans (Qe2 n _ _ _ _ h) d1
   split at h
   ·exact Nat.le_trans (Qe2 n _ _ _ _ h) d1
   split at h
   ·split at h
    ·exact Nat.le_trans (Qe2 n _ _ _ _ h) d2
    ·cases h
   ·cases h
  ·cases h;exact Nat.le_refl _
theorem Qlr {sub:Vaarra.Read Vaarra.Expr} (hs:Shr sub):Shr (Vaarra.fn sub):=fun ts x ts' h=>by
 obtain ⟨⟨f,t1⟩,h1,h2⟩:=Qax h
 have:=Qsb hs _ _ _ h1
 have:=Qe2 _ _ _ _ _ h2
 dsimp only at *
 omega
theorem Qgr {sub:Vaarra.Read Vaarra.Expr} (hs:Shr sub):∀ n,Shr (Vaarra.chain sub n)
 | 0=>fun ts x ts' h=>by cases h
 | n + 1=>fun ts x ts' h=>by
  unfold Vaarra.chain at h
  split at h
  ·obtain ⟨⟨a,t1⟩,h1,h2⟩:=Qax h
   have l1:=Qg7 hs _ _ _ h1
   dsimp only at h2
   split at h2
   ·obtain ⟨⟨f,t2⟩,h3,h4⟩:=Qax h2
    obtain ⟨b,h5,_⟩:=Qbs h4
    have:=Qlr hs _ _ _ h3
    have:=Qgr hs n _ _ _ h5
    dsimp only at *
    omega
   ·cases h2;exact l1
  ·obtain ⟨⟨f,t2⟩,h3,h4⟩:=Qax h
   obtain ⟨b,h5,_⟩:=Qbs h4
   have:=Qlr hs _ _ _ h3
   have:=Qgr hs n _ _ _ h5
   dsimp only at *
   omega
theorem Qds:∀ n,Shr (Vaarra.level n)
 | 0=>fun ts x ts' h=>by cases h
 | n + 1=>fun ts x ts' h=>Qgr (Qds n) _ ts x ts' h
def app (l:Option Vaarra.Expr) (f:Vaarra.Fun) (e:Vaarra.Expr):Vaarra.Expr:=match l with
 | none=>.one f e
 | some a=>.two a f e
def wrap:List (Option Vaarra.Expr × Vaarra.Fun)→Vaarra.Expr→Vaarra.Expr
 | [],e=>e
 | w :: r,e=>app w.1 w.2 (wrap r e)
theorem Qig (w:Option Vaarra.Expr × Vaarra.Fun) (e:Vaarra.Expr):∀ ws,wrap (ws ++ [w]) e = wrap ws (app w.1 w.2 e)
 | []=>rfl
 | v :: r=>by show app v.1 v.2 (wrap (r ++ [w]) e) = _;rw [Qig w e r];rfl
def Qk6 (ws:List (Option Vaarra.Expr × Vaarra.Fun)) (r:Except Vaarra.Fault (Vaarra.Expr × Vaarra.Toks)):Except Vaarra.Fault (Vaarra.Expr × Vaarra.Toks):=Vaarra.also (wrap ws) r
theorem Qm0 (w:Option Vaarra.Expr × Vaarra.Fun) (ws:List (Option Vaarra.Expr × Vaarra.Fun)) (r:Except Vaarra.Fault (Vaarra.Expr × Vaarra.Toks)):Qk6 (ws ++ [w]) r = Qk6 ws (Vaarra.also (app w.1 w.2) r):=by
 cases r with
 | error e=>rfl
 | ok z=>show Except.ok (wrap (ws ++ [w]) z.1,z.2) = Except.ok (wrap ws (app w.1 w.2 z.1),z.2);rw [Qig]
theorem Qnx (r:Except Vaarra.Fault (Vaarra.Expr × Vaarra.Toks)):Qk6 [] r = r:=by
 cases r with
 | error e=>rfl
 | ok z=>rfl
theorem Qul {K:PySem.W.Frag} {a:Addr} {xs:List V} {g:TG} {tb:TS} {D:Ends} {σ : L2.St} {H:Hp} (Pv:Nat→L2.St→Hp→Prop) (h0:Pv 0 σ H) (hl:∀ i σ H,i ≤ xs.length→Pv i σ H→SqL K H a xs)
  (hs:∀ i x σ H,i < xs.length→xs[xs.length - 1 - i]? = some x→Pv i σ H→g x σ H fun σ2 H2=>tb { D with nx:=Pv (i + 1),ct:=Pv (i + 1),bk:=D.nx } σ2 H2) (hd:∀ σ H,Pv xs.length σ H→D.nx σ H) :
  ∃ W:Nat→Nat→L2.St→Hp→Prop,(∃ m,W 0 m σ H)∧∀ i m σ H,W i m σ H →
   ((Itv K a xs.length).stop i H∧D.nx σ H) ∨ ((Itv K a xs.length).go i H∧∃ N:L2.St→Hp→Prop,(∀ σ' H',N σ' H'→∃ m',m' < m∧W (i + 1) m' σ' H')∧∀ x H',(Itv K a xs.length).yld i H x H'→g x σ H' fun σ2 H2=>tb { D with nx:=N,ct:=N,bk:=D.nx } σ2 H2):=by
 refine ⟨fun i m σ H=>m = xs.length - i∧i ≤ xs.length∧Pv i σ H,⟨xs.length,by simp,Nat.zero_le _,h0⟩,?_⟩
 rintro i m σ H ⟨rfl,hi,p⟩
 have q:=hl i σ H hi p
 by_cases hlt:i < xs.length
 ·have lt2:xs.length - 1 - i < xs.length:=by omega
  refine .inr ⟨⟨hlt,xs,xs[xs.length - 1 - i],q,List.getElem?_eq_getElem lt2⟩,Pv (i + 1),fun σ' H' p'=>⟨xs.length - (i + 1),by omega,rfl,hlt,p'⟩,fun x H' y=>?_⟩
  obtain ⟨e,y⟩:=y
  subst e
  exact hs i x σ _ hlt (y xs q) p
 ·have e:i = xs.length:=by omega
  subst e
  exact .inl ⟨Nat.le_refl _,hd σ H p⟩
section
variable {P : Program} {w : World} {K : PySem.W.Frag} {mg : Str → Option Value} {base : Heap} {a : Ad}
theorem seq_if {c:TT} {t u rest:TS} {D:Ends} {σ : L2.St} {H:Hp} (h:c σ H fun b H1=>if b = true then t { D with nx:=rest D } σ H1 else u { D with nx:=rest D } σ H1):tSeq (tIfS c t u) rest D σ H:=h
def Qve (K:PySem.W.Frag) (a:Ad):Sp:=fun vs H Q E=>∃ r tl al as os T p q ts,vs = [.ref r]∧Rd a H r tl al as os T p∧T.drop p = q :: ts ∧
 (∀ k,q.2 = .num k→0 ≤ k→k ≤ 5→∀ H',Kept r al H H'→Rd a H' r tl al as os T (p + 1)→Q (.int k) H') ∧
 ((∀ k,q.2 = .num k→¬ (0 ≤ k∧k ≤ 5))→∀ cls d H',EW K a.c_Refused 3 q.1 cls d H'→E cls d H')
theorem Qj8 (T:Txt K mg a):FnOk P w K mg base (CX1 P w) 5 a.f_qs a.fd_qs ["self"] (Qve K a):=by
 refine T.F_qs.okX Qvv (fun vs H Q E h=>?_) (fun cdv A outer s H vs Q E hr h=>?_)
 ·obtain ⟨r,tl,al,as,os,T',p,q,ts,rfl,_⟩:=h
  rfl
 ·obtain ⟨r,tl,al,as,os,T',p,q,ts,rfl,R,hq,k1,k2⟩:=h
  have nd:=Qvv.nd
  refine ⟨_,Qa2 (Qao (i:=1) nd rfl (Or.inl rfl) (Qb8 (pv 0) T.cl_Reader T.m_qr (Qbe T) hr T.B_qr .nil Qbq (Qa0 Qad Qa5)))
   (Qa2 (Qao (i:=2) nd rfl (Or.inl rfl) (Qag (Qt9 T) (hr.mono (by decide)) rfl T.g_qbb T.F_qbb.kp T.B_qbb .nil Qam (Qa0 (pv 1) Qa5)))
   (Qa2 (Qb6 ((pw_or (Qac Qnd (pv 2) Qai (Qap _)) (pw_or1 (Qac Qg8 (pv 2) (Qed T.g_LARGEST_RANK (by rfl)) (Qap _)))).pt)
    (Qa4 (Qc8 rfl Qc7 T.em_SyntaxFault (Qx4 T) (hr.mono (by decide)) (by rfl) T.g_SyntaxFault T.B_qn (Qab (pv 1) (by rfl)))) Qak)
   (Qa4 (Qae (pv 2))))),?_⟩
  obtain ⟨dx,hr'⟩:=R.ob
  refine ⟨_,rfl,r,dx,_,rfl,hr',rfl,r,tl,al,as,os,T',p,q,ts,1,rfl,by decide,by decide,R,hq,fun wf e H' y x kp R' tk=>?_,fun wf e=>?_⟩
  ·obtain ⟨n,hn⟩:=Qgi.mp e
   obtain ⟨i,t⟩:=q
   obtain rfl:t = .num n:=hn
   refine ⟨_,rfl,y,i,n,x,rfl,tk,?_⟩
   obtain ⟨⟨dy,hy⟩,_⟩:=id tk
   have bad : ¬ (0 ≤ n∧n ≤ 5)→∀ cls d H',EW K a.c_Refused 3 i cls d H'→E cls d H':=fun h=>k2 fun k hk=>by cases hk;exact h
   refine ⟨_,rfl,_,_,rfl,rfl,_,rfl,?_⟩
   by_cases h0:n < 0
   ·rw [decide_eq_true h0]
    refine iteT (iteT ⟨_,rfl,y,_,dy,_,_,rfl,hy,T.cl_Token,T.n_Token_position,rfl,?_⟩)
    exact Qbk (Qcy T) (bad (by omega))
   rw [decide_eq_false h0]
   refine iteF ⟨_,rfl,_,_,rfl,rfl,_,rfl,?_⟩
   by_cases h5 : 5 < n
   ·rw [decide_eq_true h5]
    refine iteT ⟨_,rfl,y,_,dy,_,_,rfl,hy,T.cl_Token,T.n_Token_position,rfl,?_⟩
    exact Qbk (Qcy T) (bad (by omega))
   ·rw [decide_eq_false h5]
    exact iteF ⟨_,rfl,k1 n rfl (by omega) (by omega) H' kp R'⟩
  ·exact k2 fun k hk=>absurd (Qgi.mpr ⟨k,hk⟩) e
end
def Un (G H H':Hp):Hp:=fun b=>match G b with
 | some o=>some o
 | none=>New H H' b
theorem Un.left {G H H':Hp}:Same G (Un G H H'):=fun b o e=>by unfold Un;rw [e]
theorem Un.right {G H H':Hp} (s:Same G H):Same (New H H') (Un G H H'):=fun b o e=>by
 unfold Un
 cases q:G b with
 | none=>exact e
 | some o'=>have:=(New.get e).1;rw [s b o' q] at this;cases this
theorem Un.get {G H H':Hp} {b:Addr} {o:HO} (h:Un G H H' b = some o):G b = some o ∨ (H b = none∧H' b = some o):=by
 unfold Un at h
 cases q:G b with
 | none=>rw [q] at h;exact .inr (New.get h)
 | some o'=>rw [q] at h;exact .inl h
theorem Un.mono {G H H' H'':Hp} (s:Same G H) (k:Same H' H''):Same (Un G H H') (Un G H H''):=fun b o e=>by
 rcases Un.get e with h | h
 ·exact Un.left _ _ h
 ·exact Un.right s _ _ (New.at h.1 (k _ _ h.2))
theorem Un.sub {G H H':Hp} (s:Same G H) (k:Same H H'):Same (Un G H H') H':=fun b o e=>by
 rcases Un.get e with h | h
 ·exact k _ _ (s _ _ h)
 ·exact h.2
def LAt (C:Addr) (G:Hp):Option Vaarra.Expr→Option Addr→Prop
 | none,none=>True
 | some e,some b=>EAt C G e b
 | _,_=>False
def Qey (C:Addr) (G:Hp) (t:Addr) (w:Option Vaarra.Expr × Vaarra.Fun):Prop:=∃ l f,G t = some (.tup [lV l, .ref f])∧LAt C G w.1 l∧FAt C G w.2 f
theorem LAt.same {C:Addr} {G G':Hp} (s:Same G G'):∀ {l:Option Vaarra.Expr} {b:Option Addr},LAt C G l b→LAt C G' l b
 | none,none,_=>trivial
 | some _,some _,h=>EAt.same s h
 | none,some _,h=>False.elim h
 | some _,none,h=>False.elim h
theorem Qey.same {C:Addr} {G G':Hp} (s:Same G G') {t:Addr} {w:Option Vaarra.Expr × Vaarra.Fun} (h:Qey C G t w):Qey C G' t w:=let ⟨l,f,h1,h2,h3⟩:=h; ⟨l,f,s _ _ h1,h2.same s,h3.same s⟩
def lds (l:Option Vaarra.Expr):List Ms:=match l with
 | none=>[]
 | some e=>[msE e]
theorem LAt.depth {C:Addr} {G:Hp} {f y:Addr} {df dy:Ms} (hf:Qbb C G f df) (hy:Qbb C G y dy):∀ {l:Option Vaarra.Expr} {b:Option Addr},LAt C G l b→Paired (Qbb C G) (b.toList ++ [f,y]) (lds l ++ [df,dy])
 | none,none,_=>.cons hf (.cons hy .nil)
 | some _,some _,h=>.cons (EAt.depth h) (.cons hf (.cons hy .nil))
 | none,some _,h=>False.elim h
 | some _,none,h=>False.elim h
theorem Qrl (x y:Nat):maxl [x,y] = max x y:=by show max x (max y 0) = _;rw [Nat.max_eq_left (Nat.zero_le y)]
theorem Qnj (x y z:Nat):maxl [x,y,z] = max x (max y z):=by show max x (max y (max z 0)) = _;rw [Nat.max_eq_left (Nat.zero_le z)]
theorem Qxv {wd:Str} {ln lp:Addr} {f:Vaarra.Fun} {e:Vaarra.Expr}:nf "one" wd ln lp (mkM "one" [msF f,msE e]) = nf "one" wd ln lp (msE (.one f e)):=by
 refine Qrg (congrArg (· + 1) (Qrl _ _)) ?_ ?_
 ·show max (if bump "one" false = true then _ else lvF f) (max (lvE e) 0) = lvE (.one f e)
  rw [show bump "one" false = false from by decide,if_neg Bool.false_ne_true,Nat.max_eq_left (Nat.zero_le (lvE e))]
  simp only [lvE]
 ·show ndF f + (ndE e + 0) + 1 = ndE (.one f e)
  simp only [ndE,Nat.add_zero]
theorem Qxu {wd:Str} {ln lp:Addr} {f:Vaarra.Fun} {g e:Vaarra.Expr}:nf "two" wd ln lp (mkM "two" [msE g,msF f,msE e]) = nf "two" wd ln lp (msE (.two g f e)):=by
 refine Qrg (congrArg (· + 1) (Qnj _ _ _)) ?_ ?_
 ·show max (if bump "two" (Vaarra.works g) = true then lvE g + 1 else lvE g) (max (lvF f) (max (lvE e) 0)) = lvE (.two g f e)
  rw [show bump "two" (Vaarra.works g) = Vaarra.works g from by cases Vaarra.works g <;> decide,Nat.max_eq_left (Nat.zero_le (lvE e))]
  simp only [lvE]
 ·show ndE g + (ndF f + (ndE e + 0)) + 1 = ndE (.two g f e)
  simp only [ndE,Nat.add_zero]
theorem Qun {C:Addr} {G:Hp} {f:Vaarra.Fun} {e:Vaarra.Expr} {bf be y dx ln lp:Addr} (hf:FAt C G f bf) (he:EAt C G e be):∀ {l:Option Vaarra.Expr} {b:Option Addr},LAt C G l b →
  G y = some (.ins C dx (nf (if b.isSome then "two" else "one") "" ln lp (mkM (if b.isSome then "two" else "one") (lds l ++ [msF f,msE e]))))→G ln = some (.lst [])→G lp = some (.lst ((b.toList ++ [bf,be]).map V.ref))→EAt C G (app l f e) y
 | none,none,_,h1,h2,h3=>⟨dx,ln,lp,bf,be,by rw [← Qxv];exact h1,h2,h3,hf,he⟩
 | some g,some b,h,h1,h2,h3=>⟨dx,ln,lp,b,bf,be,by rw [← Qxu];exact h1,h2,h3,h,hf,he⟩
 | none,some _,h,_,_,_=>False.elim h
 | some _,none,h,_,_,_=>False.elim h
section
variable {P : Program} {w : World} {K : PySem.W.Frag} {mg : Str → Option Value} {base : Heap} {a : Ad}
def Qtw (a:Ad):Sp:=fun vs H Q _=>∃ W be G tws ws e,vs = [.ref W, .ref be]∧H W = some (.lst (tws.map V.ref))∧Same G H∧Paired (Qey a.c_Node G) tws ws∧EAt a.c_Node G e be ∧
 ∀ H' y,Same H H'→EAt a.c_Node (Un G H H') (wrap ws e) y→Q (.ref y) H'
theorem ok_qg (T:Txt K mg a):FnOk P w K mg base CX0 6 a.f_qg a.fd_qg ["waiting", "last"] (Qtw a):=by
 refine T.F_qg.ok Qw1 (fun vs H Q E h=>?_) (fun cdv A outer s H vs Q E hr h=>?_)
 ·obtain ⟨W,be,G,tws,ws,e,rfl,_⟩:=h
  rfl
 ·obtain ⟨W,be,G,tws,ws,e,rfl,hW,sG,hp,he,k⟩:=h
  have nd:=Qw1.nd
  refine ⟨_,Qa2 (Qao (i:=2) nd rfl (Or.inl rfl) (pv 1))
   (Qa2 (Qos PassesOwn.never rfl (Qkc (by rfl) T.z_reversed (Qa0 (pv 0) Qa5)) (Qci (i:=3) nd rfl (Or.inl rfl))
    (Qa4 (Qao (i:=2) nd rfl (Or.inl rfl) (Qag (Qxm T) hr rfl T.g_qag T.F_qag.kp T.B_qag .nil Qam
     (Qa0 (Qcd Qtg (pv 3) Qai (fun _ _=>rfl)) (Qa0 (Qcd Qtg (pv 3) Qai (fun _ _=>rfl)) (Qa0 (pv 2) Qa5)))))))
   (Qa4 (Qae (pv 2)))),?_⟩
  refine ⟨_,rfl,_,rfl,W,tws.map V.ref,rfl,SqL.of hW,?_⟩
  have pl:=Qbi hp
  have wl:(tws.map V.ref).length = ws.length:=by rw [List.length_map,pl]
  refine Qul (K:=K) (a:=W) (xs:=tws.map V.ref) (fun i σ H'=>∃ y pr,σ = [some (.ref W),some (.ref be),some (.ref y),pr]∧Same H H'∧EAt a.c_Node (Un G H H') (wrap (ws.drop (ws.length - i)) e) y)
   ⟨be,none,rfl,Same.refl H,by rw [Nat.sub_zero,List.drop_length];exact EAt.same Un.left he⟩ (fun i σ H' _ ⟨_,_,_,sm,_⟩=>SqL.of (sm _ _ hW)) (fun i x σ H' hi hx h=>?_) (fun σ H' h=>?_)
  ·obtain ⟨y,pr,rfl,sm,ey⟩:=h
   rw [wl] at hi hx
   rw [List.getElem?_map] at hx
   obtain ⟨t,ht,rfl⟩:=Option.map_eq_some_iff.mp hx
   obtain ⟨v,hv,l,f,p1,p2,p3⟩:=Qbt hp ht
   obtain ⟨vl,vf⟩:=v
   have dr:ws.drop (ws.length - (i + 1)) = (vl,vf) :: ws.drop (ws.length - i):=by
    have lt:ws.length - (i + 1) < ws.length:=by omega
    rw [List.drop_eq_getElem_cons lt]
    have:ws[ws.length - (i + 1)]? = some (vl,vf):=by rw [show ws.length - (i + 1) = ws.length - 1 - i by omega];exact hv
    rw [List.getElem?_eq_getElem lt] at this
    rw [Option.some.inj this,show ws.length - (i + 1) + 1 = ws.length - i by omega]
   have su:Same (Un G H H') H':=Un.sub sG sm
   have q2:LAt a.c_Node (Un G H H') vl l:=p2.same Un.left
   have q3:FAt a.c_Node (Un G H H') vf f:=p3.same Un.left
   have ht':H' t = some (.tup [lV l, .ref f]):=sm _ _ (sG _ _ p1)
   refine ⟨_,rfl,t,_,_,_,rfl,rfl,SqT.of ht',rfl,_,rfl,t,_,_,_,rfl,rfl,SqT.of ht',rfl,_,rfl,?_⟩
   refine ⟨l,f,y,_,rfl,(Qav (fun _ _ h=>Qbb.same h su) (LAt.depth (FAt.depth q3) (EAt.depth ey) q2)),fun H2 y2 dx ln lp hy hln hlp sm2 o1 o2 o3=>?_⟩
   refine ⟨y2,_,rfl,sm.trans sm2,?_⟩
   rw [dr]
   have mo:Same (Un G H H') (Un G H H2):=Un.mono sG sm2
   have nw:∀ {b:Addr} {o:HO},H' b = none→H2 b = some o→Un G H H2 b = some o:=fun h1 h2=>Un.right sG _ _ (New.at (sm.free h1) h2)
   exact Qun (q3.same mo) (ey.same mo) (q2.same mo) (nw hy o1) (nw hln o2) (nw hlp o3)
  ·obtain ⟨y,pr,rfl,sm,ey⟩:=h
   rw [wl,Nat.sub_self,List.drop_zero] at ey
   exact ⟨_,rfl,k H' y sm ey⟩
end
def Res {A:Type} (K:PySem.W.Frag) (a:Ad) (At:Hp→A→Addr→Prop) (fo:A→List Nat) (r tl al:Addr) (as:List Addr) (os:List Nat) (T:Vaarra.Toks) (H:Hp) (x:Except Vaarra.Fault (A × Vaarra.Toks)) (Q:VK) (E:XK):Prop:=match x with
 | .ok z=>∀ H' y p',T.drop p' = z.2→Good (T.drop p')→Kept r al H H'→Rd a H' r tl al as (os ++ fo z.1) T p'→(os ++ fo z.1).length ≤ p'→At (New H H') z.1 y→Q (.ref y) H'
 | .error f=>∀ cls d H',EW K a.c_Refused f.kind f.place cls d H'→E cls d H'
theorem Res.ok {A:Type} {K:PySem.W.Frag} {a:Ad} {At:Hp→A→Addr→Prop} {fo:A→List Nat} {r tl al:Addr} {as:List Addr} {os:List Nat} {T:Vaarra.Toks} {H:Hp} {x:Except Vaarra.Fault (A × Vaarra.Toks)} {Q:VK} {E:XK} {v:A} {ts:Vaarra.Toks} (h:Res K a At fo r tl al as os T H x Q E) (e:x = .ok (v,ts)) :
  ∀ H' y p',T.drop p' = ts→Good (T.drop p')→Kept r al H H'→Rd a H' r tl al as (os ++ fo v) T p'→(os ++ fo v).length ≤ p'→At (New H H') v y→Q (.ref y) H':=by subst e;exact h
theorem Res.err {A:Type} {K:PySem.W.Frag} {a:Ad} {At:Hp→A→Addr→Prop} {fo:A→List Nat} {r tl al:Addr} {as:List Addr} {os:List Nat} {T:Vaarra.Toks} {H:Hp} {x:Except Vaarra.Fault (A × Vaarra.Toks)} {Q:VK} {E:XK} {f:Vaarra.Fault} (h:Res K a At fo r tl al as os T H x Q E) (e:x = .error f) :
  ∀ cls d H',EW K a.c_Refused f.kind f.place cls d H'→E cls d H':=by subst e;exact h
theorem New.wide {a:Ad} {r tl al:Addr} {as:List Addr} {os:List Nat} {T:Vaarra.Toks} {p:Nat} {H H1 H2 H3:Hp} (k1:Kept r al H H1) (k2:Kept r al H2 H3) (R:Rd a H1 r tl al as os T p):Same (New H1 H2) (New H H3):=fun b o' h=>by
 obtain ⟨h1,h2⟩:=New.get h
 exact New.at (k1.free' R h1) (k2 _ _ h2 (R.far h1))
theorem Qhp {sub:Vaarra.Read Vaarra.Expr} {s:List Nat} {ts:Vaarra.Toks} {f:Vaarra.Fault} (h:sub ts = .error f):Vaarra.closed sub s ts = .error f:=by unfold Vaarra.closed;rw [h];rfl
theorem Qjw {sub:Vaarra.Read Vaarra.Expr} {s:List Nat} {ts ts3:Vaarra.Toks} {e:Vaarra.Expr} {q:Nat × Vaarra.Tok} (h:sub ts = .ok (e,q :: ts3)) (hq:q.2 = .sign s):Vaarra.closed sub s ts = .ok (e,ts3):=by
 unfold Vaarra.closed
 rw [h]
 show (if q.2 = .sign s then Except.ok ((),ts3) else Vaarra.wrong (q :: ts3)).bind _ = _
 rw [if_pos hq];rfl
theorem Qhq {sub:Vaarra.Read Vaarra.Expr} {s:List Nat} {ts ts3:Vaarra.Toks} {e:Vaarra.Expr} {q:Nat × Vaarra.Tok} (h:sub ts = .ok (e,q :: ts3)) (hq:q.2 ≠ .sign s):Vaarra.closed sub s ts = .error ⟨3,q.1⟩:=by
 unfold Vaarra.closed
 rw [h]
 show (if q.2 = .sign s then Except.ok ((),ts3) else Vaarra.wrong (q :: ts3)).bind _ = _
 rw [if_neg hq];rfl
theorem Qki {sub:Vaarra.Read Vaarra.Expr} {q:Nat × Vaarra.Tok} {ts:Vaarra.Toks} (h1:kc q.2 ≠ 1) (h2:kc q.2 ≠ 2) (h6:kc q.2 ≠ 6):Vaarra.operand sub (q :: ts) = .error ⟨3,q.1⟩:=by
 obtain ⟨i,t⟩:=q
 cases t with
 | num n=>exact absurd rfl h1
 | small n=>exact absurd rfl h2
 | sign s =>
  show (if s = [40] then _ else Vaarra.wrong _) = _
  rw [if_neg (fun q=>h6 (by rw [q];rfl))];rfl
 | great s=>rfl
 | mod s=>rfl
 | fin=>rfl
theorem Qsd {sub:Vaarra.Read Vaarra.Expr} {q:Nat × Vaarra.Tok} {ts:Vaarra.Toks} (h1:kc q.2 ≠ 5) (h2:kc q.2 ≠ 3) (h6:kc q.2 ≠ 8):Vaarra.atom sub (q :: ts) = .error ⟨3,q.1⟩:=by
 obtain ⟨i,t⟩:=q
 cases t with
 | great n=>exact absurd rfl h2
 | sign s =>
  show (if Vaarra.funSigns.contains s then _ else if s = [123] then _ else Vaarra.wrong _) = _
  rw [if_neg (fun q=>h1 (Qpl.mpr ⟨s,rfl,q⟩)),if_neg (fun q=>h6 (by rw [q];rfl))];rfl
 | num s=>rfl
 | small s=>rfl
 | mod s=>rfl
 | fin=>rfl
theorem Qau {t:Vaarra.Tok} (h:Wf t) (s:List Nat) (hs:s ∈ Qbo) (hf:Vaarra.funSigns.contains s = false) (j:Nat) (hj:kc (.sign s) = j):kc t = j ↔ t = .sign s:=by
 rw [← hj];exact Qui h hs hf
section
variable {P : Program} {w : World} {K : PySem.W.Frag} {mg : Str → Option Value} {base : Heap} {a : Ad}
def spE (K:PySem.W.Frag) (a:Ad) (n:Nat):Sp:=fun vs H Q E=>∃ r tl al as os T p,vs = [.ref r, .int (31 - (n:Int))]∧Rd a H r tl al as os T p∧os.length ≤ p∧Good (T.drop p)∧Res K a (EAt a.c_Node) Vaarra.exprAtoms r tl al as os T H (Vaarra.level n (T.drop p)) Q E
def spO (K:PySem.W.Frag) (a:Ad) (m:Nat):Sp:=fun vs H Q E=>∃ r tl al as os T p,vs = [.ref r, .int (30 - (m:Int))]∧Rd a H r tl al as os T p∧os.length ≤ p∧Good (T.drop p)∧Res K a (EAt a.c_Node) Vaarra.exprAtoms r tl al as os T H (Vaarra.operand (Vaarra.level m) (T.drop p)) Q E
def spA (K:PySem.W.Frag) (a:Ad) (m:Nat):Sp:=fun vs H Q E=>∃ r tl al as os T p,vs = [.ref r, .int (30 - (m:Int))]∧Rd a H r tl al as os T p∧os.length ≤ p∧Good (T.drop p)∧Res K a (FAt a.c_Node) Vaarra.funAtoms r tl al as os T H (Vaarra.atom (Vaarra.level m) (T.drop p)) Q E
def spF (K:PySem.W.Frag) (a:Ad) (m:Nat):Sp:=fun vs H Q E=>∃ r tl al as os T p,vs = [.ref r, .int (30 - (m:Int))]∧Rd a H r tl al as os T p∧os.length ≤ p∧Good (T.drop p)∧Res K a (FAt a.c_Node) Vaarra.funAtoms r tl al as os T H (Vaarra.fn (Vaarra.level m) (T.drop p)) Q E
theorem Qgb (T:Txt K mg a) {m k:Nat} (hk : 6 ≤ k) (IH:FnOk P w K mg base (CX1 P w) k a.f_qb a.fd_qb ["self", "level"] (spE K a m)):FnOk P w K mg base (CX1 P w) (k + 1) a.f_qe a.fd_qe ["self", "level"] (spO K a m):=by
 refine T.F_qe.okX Qw3 (fun vs H Q E h=>?_) (fun cdv A outer s H vs Q E hr h=>?_)
 ·obtain ⟨r,tl,al,as,os,T',p,rfl,_⟩:=h
  rfl
 ·obtain ⟨r,tl,al,as,os,T',p,rfl,R,hos,g,res⟩:=h
  have nd:=Qw3.nd
  refine ⟨_,Qa2 (Qb6 (Qac Qc1 (Qay (pv 0) T.cl_Reader T.m_qt (Qb4 T) (hr.mono (by omega)) T.B_qt .nil Qam) Qad (Qap _))
    (Qa4 (Qae (Qay (pv 0) T.cl_Reader T.m_qf (Qgc T) (hr.mono hk) T.B_qf .nil Qam))) Qak)
   (Qa2 (Qb6 (Qac Qc1 (Qay (pv 0) T.cl_Reader T.m_qt (Qb4 T) (hr.mono (by omega)) T.B_qt .nil Qam) Qad (Qap _))
    (Qa4 (Qae (Qag (Qp5 T) (hr.mono (by omega)) rfl T.g_qav T.F_qav.kp T.B_qav .nil Qam (Qa0 Qad (Qa0 (Qab (Qay (pv 0) T.cl_Reader T.m_qal (Qeh T) (hr.mono (by omega)) T.B_qal .nil Qam) (by rfl)) Qa5))))) Qak)
   (Qa2 (Qaw (Qb8 (pv 0) T.cl_Reader T.m_qr (Qbe T) (hr.mono (by omega)) T.B_qr .nil Qbq (Qa0 Qad Qa5)))
   (Qa2 (Qao (i:=2) nd rfl (Or.inl rfl) (Qb8 (pv 0) T.cl_Reader T.m_qb IH hr T.B_qb .nil Qbq (Qa0 (Qbl Qd0 (pv 1) Qai) Qa5)))
   (Qa2 (Qaw (Qb8 (pv 0) T.cl_Reader T.m_qr (Qbe T) (hr.mono (by omega)) T.B_qr .nil Qbq (Qa0 Qad Qa5)))
   (Qa4 (Qae (pv 2))))))),?_⟩
  obtain ⟨dx,hr'⟩:=R.ob
  obtain ⟨q,ts,hq⟩:=g.cons
  have e2:T'.drop (p + 1) = ts:=(Qan hq).2
  refine Qh8 1 rfl R hq (by decide) (by decide) rfl ?_
  by_cases h1:kc q.2 = 1
  ·rw [decide_eq_true h1]
   obtain ⟨n,hn⟩:=Qgi.mp h1
   obtain ⟨i,t⟩:=q
   obtain rfl:t = .num n:=hn
   refine iteT ⟨_,rfl,r,dx,_,rfl,hr',rfl,r,tl,al,as,os,T',p,rfl,R,g,?_⟩
   intro H1 y p1 lep d1 g1 k1 R1 ea
   refine res.ok (v:=.nums (Vaarra.numsOf (T'.drop p)).1) (ts:=(Vaarra.numsOf (T'.drop p)).2) (by rw [hq];rfl) H1 y p1 d1 g1 k1 (R1.os (List.append_nil _).symm) ?_ ea
   show (os ++ []).length ≤ p1
   rw [List.append_nil];omega
  rw [decide_eq_false h1]
  refine iteF (Qh8 2 rfl R hq (by decide) (by decide) rfl ?_)
  by_cases h2:kc q.2 = 2
  ·rw [decide_eq_true h2]
   obtain ⟨n,hn⟩:=Qeu.mp h2
   obtain ⟨i,t⟩:=q
   obtain rfl:t = .small n:=hn
   refine iteT ⟨_,rfl,r,dx,_,rfl,hr',rfl,r,tl,al,as,os,T',p,_,_,rfl,R,hq,fun H1 y x k1 R1 tk=>?_⟩
   obtain ⟨⟨dy,hy⟩,hx,_⟩:=tk
   subst hx
   refine ⟨y,_,dy,_,_,rfl,hy,T.cl_Token,T.n_Token_spelling,rfl,_,_,rfl,by decide,fun H2 z dz ln lp n1 n2 n3 sm o1 o2 o3=>?_⟩
   obtain ⟨d1,hr1⟩:=R1.ob
   have f:=fun {b}=>k1.free' (b:=b) R1
   refine res.ok (v:=.name x i) (ts:=ts) (by rw [hq];rfl) H2 z (p + 1) e2 ?_ (k1.trans (Same.kept sm)) ((R1.same sm).os (List.append_nil _).symm) ?_ ⟨dz,ln,lp,New.at (f n1) o1,New.at (f n2) o2,New.at (f n3) o3⟩
   ·rw [e2];rw [hq] at g;exact g.tail (by intro h;cases h)
   ·show (os ++ []).length ≤ p + 1
    rw [List.append_nil];omega
  rw [decide_eq_false h2]
  refine iteF ⟨_,rfl,r,dx,_,rfl,hr',rfl,r,tl,al,as,os,T',p,q,ts,6,rfl,by decide,by decide,R,hq,fun wf e H1 y x k1 R1 tk=>?_,fun wf e=>?_⟩
  ·have hs:=(Qau wf [40] (by decide) (by decide) 6 rfl).mp e
   obtain ⟨i,t⟩:=q
   obtain rfl:t = .sign [40]:=hs
   obtain ⟨d1,hr1⟩:=R1.ob
   have g1:Good (T'.drop (p + 1)):=by rw [e2];rw [hq] at g;exact g.tail (by intro h;cases h)
   have oe:Vaarra.operand (Vaarra.level m) (T'.drop p) = Vaarra.closed (Vaarra.level m) [41] (T'.drop (p + 1)):=by rw [hq,e2];rfl
   refine ⟨_,rfl,r,d1,_,rfl,hr1,rfl,_,rfl,_,_,rfl,rfl,r,tl,al,as,os,T',p + 1,?_,R1,by omega,g1,?_⟩
   ·show [V.ref r,V.int (30 - (m:Int) + 1)] = _
    rw [show (30:Int) - m + 1 = 31 - m by omega]
   unfold Res
   cases lv:Vaarra.level m (T'.drop (p + 1)) with
   | error f=>exact res.err (by rw [oe];exact Qhp lv)
   | ok z =>
    obtain ⟨ex,ts2⟩:=z
    intro H2 y2 p2 hp2 g2 k2 R2 b2 ea
    obtain ⟨q2,ts3,hq2⟩:=g2.cons
    obtain ⟨d2,hr2⟩:=R2.ob
    have lv':Vaarra.level m (T'.drop (p + 1)) = .ok (ex,q2 :: ts3):=by rw [lv];congr 2;rw [← hq2];exact hp2.symm
    have e3:T'.drop (p2 + 1) = ts3:=(Qan hq2).2
    refine ⟨_,rfl,r,d2,_,rfl,hr2,rfl,r,tl,al,as,_,T',p2,q2,ts3,7,rfl,by decide,by decide,R2,hq2,fun wf2 e4 H3 y3 x3 k3 R3 tk3=>?_,fun wf2 e4=>?_⟩
    ·have hs2:=(Qau wf2 [41] (by decide) (by decide) 7 rfl).mp e4
     refine ⟨_,rfl,res.ok (by rw [oe];exact Qjw lv' hs2) H3 y2 (p2 + 1) e3 ?_ ((k1.trans k2).trans k3) R3 (by omega) (ea.same (New.wide k1 k3 R1))⟩
     rw [e3];rw [hq2] at g2;exact g2.tail (by rw [hs2];intro h;cases h)
    ·exact res.err (f:=⟨3,q2.1⟩) (by rw [oe];exact Qhq lv' fun h=>e4 ((Qau wf2 [41] (by decide) (by decide) 7 rfl).mpr h))
  ·exact res.err (f:=⟨3,q.1⟩) (by rw [hq];exact Qki h1 h2 e)
end
section
variable {P : Program} {w : World} {K : PySem.W.Frag} {mg : Str → Option Value} {base : Heap} {a : Ad}
theorem Qfh (T:Txt K mg a) {m k:Nat} (hk : 6 ≤ k) (IH:FnOk P w K mg base (CX1 P w) k a.f_qb a.fd_qb ["self", "level"] (spE K a m)):FnOk P w K mg base (CX1 P w) (k + 1) a.f_qq a.fd_qq ["self", "level"] (spA K a m):=by
 refine T.F_qq.okX Qvw (fun vs H Q E h=>?_) (fun cdv A outer s H vs Q E hr h=>?_)
 ·obtain ⟨r,tl,al,as,os,T',p,rfl,_⟩:=h
  rfl
 ·obtain ⟨r,tl,al,as,os,T',p,rfl,R,hos,g,res⟩:=h
  have nd:=Qvw.nd
  refine ⟨_,Qa2 (Qaw (Qj1 PySem.F.plainAttrs_list PySem.F.slot_list_append PySem.F.type_list_append Qcn (Qab (pv 0) (by rfl)) (Qa0 (Qab (Qcd Qbw (Qab (pv 0) (by rfl)) (Qab (pv 0) (by rfl)) (fun _ _=>rfl)) (by rfl)) Qa5)))
   (Qa2 (Qb6 (Qac Qc1 (Qay (pv 0) T.cl_Reader T.m_qt (Qb4 T) (hr.mono (by omega)) T.B_qt .nil Qam) Qad (Qap _))
    (Qa4 (Qae (Qag (Qp5 T) (hr.mono (by omega)) rfl T.g_qav T.F_qav.kp T.B_qav .nil Qam (Qa0 Qad (Qa0 (Qab (Qay (pv 0) T.cl_Reader T.m_qal (Qeh T) (hr.mono (by omega)) T.B_qal .nil Qam) (by rfl)) Qa5))))) Qak)
   (Qa2 (Qb6 (Qac Qc1 (Qay (pv 0) T.cl_Reader T.m_qt (Qb4 T) (hr.mono (by omega)) T.B_qt .nil Qam) Qad (Qap _))
    (Qa2 (Qao (i:=2) nd rfl (Or.inl rfl) (Qab (Qay (pv 0) T.cl_Reader T.m_qal (Qeh T) (hr.mono (by omega)) T.B_qal .nil Qam) (by rfl)))
    (Qa4 (Qae (Qag (Qp5 T) (hr.mono (by omega)) rfl T.g_qav T.F_qav.kp T.B_qav .nil Qam (Qa0 (Qd7 (Qac Qbh (pv 2) (Qbp (v:=.ref a.p_PRIMITIVE_WORDS) (by rfl) T.g_PRIMITIVE_WORDS rfl) (by with_unfolding_all rfl)) Qad Qad) (Qa0 (pv 2) Qa5)))))) Qak)
   (Qa2 (Qaw (Qb8 (pv 0) T.cl_Reader T.m_qr (Qbe T) (hr.mono (by omega)) T.B_qr .nil Qbq (Qa0 Qad Qa5)))
   (Qa2 (Qao (i:=3) nd rfl (Or.inl rfl) (Qb8 (pv 0) T.cl_Reader T.m_qb IH hr T.B_qb .nil Qbq (Qa0 (Qbl Qd0 (pv 1) Qai) Qa5)))
   (Qa2 (Qaw (Qb8 (pv 0) T.cl_Reader T.m_qr (Qbe T) (hr.mono (by omega)) T.B_qr .nil Qbq (Qa0 Qad Qa5)))
   (Qa4 (Qae (Qag (Qxa T) (hr.mono (by omega)) rfl T.g_qba T.F_qba.kp T.B_qba .nil Qam (Qa0 (pv 3) Qa5))))))))),?_⟩
  obtain ⟨dx,hr'⟩:=R.ob
  obtain ⟨q,ts,hq⟩:=g.cons
  obtain ⟨yq,xq,hq1,⟨dq,hq2⟩,_⟩:=R.tok (Qan hq).1
  have ltp:p < T'.length:=(List.getElem?_eq_some_iff.mp (Qan hq).1).1
  refine ⟨_,rfl,r,_,dx,_,_,rfl,hr',T.cl_Reader,T.n_Reader_atoms,rfl, .inl ⟨rfl,_,SqL.of R.la⟩,_,rfl,r,_,dx,_,_,rfl,hr',T.cl_Reader,T.n_Reader_tokens,rfl,_,rfl,r,_,dx,_,_,rfl,hr',T.cl_Reader,T.n_Reader_place,rfl,?_⟩
  refine ⟨tl,_,_,_,rfl,rfl,SqL.of R.ls,Qcq hq1,yq,_,dq,_,_,rfl,hq2,T.cl_Token,T.n_Token_position,rfl,al,_,_,rfl,rfl,R.la,?_,?_⟩
  ·unfold osV;rw [List.length_map];have:=R.sz;exact Nat.lt_of_le_of_lt (show os.length ≤ 2049 by omega) (by decide)
  have k0:Kept r al H (L2.upd H al (.lst (osV os ++ [.int q.1]))):=fun b o e n=>by rw [Qa6 n.2];exact e
  have R0:Rd a (L2.upd H al (.lst (osV os ++ [.int q.1]))) r tl al as (os ++ [q.1]) T' p:=R.moved k0 ⟨dx,by rw [Qa6 (Qc2 hr' R.la (by intro q;cases q))];exact hr'⟩ (by rw [Qa3];unfold osV;rw [List.map_append];rfl)
  generalize L2.upd H al (.lst (osV os ++ [.int q.1])) = H0 at k0 R0 ⊢
  have R00:=R
  clear hr' hq1 hq2
  have R:=R0
  obtain ⟨dx,hr'⟩:=R.ob
  have hos:(os ++ [q.1]).length ≤ p + 1:=by rw [List.length_append,List.length_singleton];omega
  have e2:T'.drop (p + 1) = ts:=(Qan hq).2
  refine Qh8 5 rfl R hq (by decide) (by decide) rfl ?_
  by_cases h1:kc q.2 = 5
  ·rw [decide_eq_true h1]
   obtain ⟨n,hn,hf⟩:=Qpl.mp h1
   obtain ⟨i,t⟩:=q
   obtain rfl:t = .sign n:=hn
   refine iteT ⟨_,rfl,r,dx,_,rfl,hr',rfl,r,tl,al,as,_,T',p,_,_,rfl,R,hq,fun H1 y x k1 R1 tk=>?_⟩
   have k1:=k0.trans k1
   obtain ⟨⟨dy,hy⟩,hx,_⟩:=tk
   subst hx
   refine ⟨y,_,dy,_,_,rfl,hy,T.cl_Token,T.n_Token_spelling,rfl,_,_,rfl,by decide,fun H2 z dz ln lp n1 n2 n3 sm o1 o2 o3=>?_⟩
   obtain ⟨d1,hr1⟩:=R1.ob
   have f:=fun {b}=>k1.free' (b:=b) R1
   refine res.ok (v:=.prim x i) (ts:=ts) ?_ H2 z (p + 1) e2 ?_ (k1.trans (Same.kept sm)) (R1.same sm) hos ⟨dz,ln,lp,New.at (f n1) o1,New.at (f n2) o2,New.at (f n3) o3⟩
   ·rw [hq]
    show (if Vaarra.funSigns.contains x = true then _ else _) = _
    rw [if_pos hf];rfl
   ·rw [e2];rw [hq] at g;exact g.tail (by intro h;cases h)
  rw [decide_eq_false h1]
  refine iteF (Qh8 3 rfl R hq (by decide) (by decide) rfl ?_)
  by_cases h2:kc q.2 = 3
  ·rw [decide_eq_true h2]
   obtain ⟨n,hn⟩:=Qfv.mp h2
   obtain ⟨i,t⟩:=q
   obtain rfl:t = .great n:=hn
   refine iteT ⟨_,rfl,r,dx,_,rfl,hr',rfl,r,tl,al,as,_,T',p,_,_,rfl,R,hq,fun H1 y x k1 R1 tk=>?_⟩
   have k1:=k0.trans k1
   obtain ⟨⟨dy,hy⟩,hx,_⟩:=tk
   subst hx
   refine ⟨y,_,dy,_,_,rfl,hy,T.cl_Token,T.n_Token_spelling,rfl,_,rfl,a.p_PRIMITIVE_WORDS,_,rfl, .inr (T.q_PRIMITIVE_WORDS _),rfl,Qbd _,_,rfl,?_⟩
   rw [if_neg Bool.false_ne_true,Qce]
   obtain ⟨d1,hr1⟩:=R1.ob
   have f:=fun {b}=>k1.free' (b:=b) R1
   have gg:Good (T'.drop (p + 1)):=by rw [e2];rw [hq] at g;exact g.tail (by intro h;cases h)
   show if Vaarra.words.contains x = true then _ else _
   have ev:Vaarra.atom (Vaarra.level m) (T'.drop p) = .ok (if Vaarra.words.contains x = true then .prim x i else .given x i,ts):=by rw [hq];rfl
   by_cases hw:Vaarra.words.contains x = true
   ·rw [if_pos hw] at ev ⊢
    refine ⟨_,rfl,_,_,rfl,by decide,fun H2 z dz ln lp n1 n2 n3 sm o1 o2 o3=>?_⟩
    exact res.ok ev H2 z (p + 1) e2 gg (k1.trans (Same.kept sm)) (R1.same sm) hos ⟨dz,ln,lp,New.at (f n1) o1,New.at (f n2) o2,New.at (f n3) o3⟩
   ·rw [if_neg hw] at ev ⊢
    refine ⟨_,rfl,_,_,rfl,by decide,fun H2 z dz ln lp n1 n2 n3 sm o1 o2 o3=>?_⟩
    exact res.ok ev H2 z (p + 1) e2 gg (k1.trans (Same.kept sm)) (R1.same sm) hos ⟨dz,ln,lp,New.at (f n1) o1,New.at (f n2) o2,New.at (f n3) o3⟩
  rw [decide_eq_false h2]
  refine iteF ⟨_,rfl,r,dx,_,rfl,hr',rfl,r,tl,al,as,_,T',p,q,ts,8,rfl,by decide,by decide,R,hq,fun wf e H1 y x k1 R1 tk=>?_,fun wf e=>?_⟩
  ·have k1:=k0.trans k1
   have hs:=(Qau wf [123] (by decide) (by decide) 8 rfl).mp e
   obtain ⟨i,t⟩:=q
   obtain rfl:t = .sign [123]:=hs
   obtain ⟨d1,hr1⟩:=R1.ob
   have g1:Good (T'.drop (p + 1)):=by rw [e2];rw [hq] at g;exact g.tail (by intro h;cases h)
   have oe:Vaarra.atom (Vaarra.level m) (T'.drop p) = Vaarra.also (fun e=>.body e i) (Vaarra.closed (Vaarra.level m) [125] (T'.drop (p + 1))):=by rw [hq,e2];rfl
   refine ⟨_,rfl,r,d1,_,rfl,hr1,rfl,_,rfl,_,_,rfl,rfl,r,tl,al,as,_,T',p + 1,?_,R1,hos,g1,?_⟩
   ·show [V.ref r,V.int (30 - (m:Int) + 1)] = _
    rw [show (30:Int) - m + 1 = 31 - m by omega]
   unfold Res
   cases lv:Vaarra.level m (T'.drop (p + 1)) with
   | error f=>exact res.err (by rw [oe,Qhp lv];rfl)
   | ok z =>
    obtain ⟨ex,ts2⟩:=z
    intro H2 y2 p2 hp2 g2 k2 R2 b2 ea
    obtain ⟨q2,ts3,hq2⟩:=g2.cons
    obtain ⟨d2,hr2⟩:=R2.ob
    have lv':Vaarra.level m (T'.drop (p + 1)) = .ok (ex,q2 :: ts3):=by rw [lv];congr 2;rw [← hq2];exact hp2.symm
    have e3:T'.drop (p2 + 1) = ts3:=(Qan hq2).2
    refine ⟨_,rfl,r,d2,_,rfl,hr2,rfl,r,tl,al,as,_,T',p2,q2,ts3,9,rfl,by decide,by decide,R2,hq2,fun wf2 e4 H3 y3 x3 k3 R3 tk3=>?_,fun wf2 e4=>?_⟩
    ·have hs2:=(Qau wf2 [125] (by decide) (by decide) 9 rfl).mp e4
     obtain ⟨d3,hr3⟩:=R3.ob
     have ea3:EAt a.c_Node (New H H3) ex y2:=ea.same (New.wide k1 k3 R1)
     have kk:=(k1.trans k2).trans k3
     refine ⟨_,rfl,y2,_,rfl,ea3.depth.same New.sub,fun H4 z dz ln lp n1 n2 n3 sm o1 o2 o3=>?_⟩
     have f:=fun {b}=>kk.free' (b:=b) R3
     refine res.ok (v:=.body ex i) (ts:=ts3) (by rw [oe,Qjw lv' hs2];rfl) H4 z (p2 + 1) e3 ?_ (kk.trans (Same.kept sm)) ((R3.same sm).os (List.append_assoc _ _ _)) ?_ ⟨dz,ln,lp,y2,New.at (f n1) o1,New.at (f n2) o2,New.at (f n3) o3,ea3.same (New.wide (r:=r) (Kept.refl r al H) (Same.kept sm) R00)⟩
     ·rw [e3];rw [hq2] at g2;exact g2.tail (by rw [hs2];intro h;cases h)
     ·have b2':(os ++ [i] ++ Vaarra.exprAtoms ex).length ≤ p2:=b2
      show (os ++ ([i] ++ Vaarra.exprAtoms ex)).length ≤ p2 + 1
      rw [← List.append_assoc];omega
    ·exact res.err (f:=⟨3,q2.1⟩) (by rw [oe,Qhq lv' fun h=>e4 ((Qau wf2 [125] (by decide) (by decide) 9 rfl).mpr h)];rfl)
  ·exact res.err (f:=⟨3,q.1⟩) (by rw [hq];exact Qsd h1 h2 e)
end
theorem Qkn {n:Nat} {f:Vaarra.Fun} {q:Nat × Vaarra.Tok} {ts:Vaarra.Toks} (h:kc q.2 ≠ 4):Vaarra.mods (n + 1) f (q :: ts) = .ok (f,q :: ts):=by
 obtain ⟨i,t⟩:=q
 cases t with
 | mod s=>exact absurd rfl h
 | _=>rfl
theorem Qni {s:List Nat} (h:Vaarra.modWords.contains s = true) (ne:s ≠ Vaarra.mAt):∃ M,modW M = s∧modN M = []∧∀ n f i ts,Vaarra.mods (n + 1) f ((i, .mod s) :: ts) = Vaarra.mods n (.mod M f) ts:=by
 have:=List.contains_iff_mem.mp h
 unfold Vaarra.modWords at this
 simp only [List.mem_cons,List.not_mem_nil,or_false] at this
 rcases this with rfl | rfl | rfl | rfl | rfl
 ·exact ⟨.fold,rfl,rfl,fun _ _ _ _=>rfl⟩
 ·exact ⟨.scan,rfl,rfl,fun _ _ _ _=>rfl⟩
 ·exact ⟨.table,rfl,rfl,fun _ _ _ _=>rfl⟩
 ·exact ⟨.swap,rfl,rfl,fun _ _ _ _=>rfl⟩
 ·exact absurd rfl ne
theorem Qpb {n:Nat} {f:Vaarra.Fun} {i j:Nat} {k:Int} {ts:Vaarra.Toks}:Vaarra.mods (n + 1) f ((i, .mod Vaarra.mAt) :: (j, .num k) :: ts) = if 0 ≤ k∧k ≤ 5 then Vaarra.mods n (.mod (.at_ k.toNat) f) ts else .error ⟨3,j⟩:=rfl
theorem Qrj {n:Nat} {f:Vaarra.Fun} {i:Nat} {q:Nat × Vaarra.Tok} {ts:Vaarra.Toks} (h:∀ k,q.2 = .num k→¬ (0 ≤ k∧k ≤ 5)):Vaarra.mods (n + 1) f ((i, .mod Vaarra.mAt) :: q :: ts) = .error ⟨3,q.1⟩:=by
 obtain ⟨j,t⟩:=q
 cases t with
 | num k=>rw [Qpb,if_neg (h k rfl)]
 | _=>rfl
theorem Qtk (s:List Nat):decide (V.str (ss (58 :: s)) = V.str (":at" : Str)) = decide (s = Vaarra.mAt):=by
 have e:=Qti (58 :: s) (58 :: Vaarra.mAt)
 rw [show decide (58 :: s = 58 :: Vaarra.mAt) = decide (s = Vaarra.mAt) by simp] at e
 exact e
theorem Qq4 {C:Addr} {G:Hp} {M:Vaarra.Mod} {f:Vaarra.Fun} {b y dx ln lp:Addr} (h:FAt C G f b) (h1:G y = some (.ins C dx (nf "modified" (ss (58 :: modW M)) ln lp ⟨false,Vaarra.funDepth f + 1,lvF f,ndF f + 1⟩))) (h2:G ln = some (.lst (modN M))) (h3:G lp = some (.lst [.ref b])):FAt C G (.mod M f) y :=
 ⟨dx,ln,lp,b,h1,h2,h3,h⟩
section
variable {P : Program} {w : World} {K : PySem.W.Frag} {mg : Str → Option Value} {base : Heap} {a : Ad}
theorem Qdg (T:Txt K mg a) {m k:Nat} (hk : 7 ≤ k) (IH:FnOk P w K mg base (CX1 P w) k a.f_qq a.fd_qq ["self", "level"] (spA K a m)):FnOk P w K mg base (CX1 P w) (k + 1) a.f_qd a.fd_qd ["self", "level"] (spF K a m):=by
 refine T.F_qd.okX Qw4 (fun vs H Q E h=>?_) (fun cdv A outer s H vs Q E hr h=>?_)
 ·obtain ⟨r,tl,al,as,os,T',p,rfl,_⟩:=h
  rfl
 ·obtain ⟨r,tl,al,as,os,T',p,rfl,R,hos,g,res⟩:=h
  have nd:=Qw4.nd
  refine ⟨_,Qa2 (Qao (i:=2) nd rfl (Or.inl rfl) (Qb8 (pv 0) T.cl_Reader T.m_qq IH hr T.B_qq .nil Qbq (Qa0 (pv 1) Qa5)))
   (Qa2 (Qd5 own1 (Qac Qc1 (Qay (pv 0) T.cl_Reader T.m_qt (Qb4 T) (hr.mono (by omega)) T.B_qt .nil Qam) Qad (Qap _))
    (Qa2 (Qao (i:=3) nd rfl (Or.inl rfl) (Qab (Qay (pv 0) T.cl_Reader T.m_qal (Qeh T) (hr.mono (by omega)) T.B_qal .nil Qam) (by rfl)))
    (Qa2 (Qao (i:=4) nd rfl (Or.inl rfl) (Qd7 (Qac Qc1 (pv 3) Qad (Qap _)) (Qc0 (Qa0 (Qay (pv 0) T.cl_Reader T.m_qs (Qj8 T) (hr.mono (by omega)) T.B_qs .nil Qbq) Qa5)) (Qc0 Qa5)))
    (Qa4 (Qao (i:=2) nd rfl (Or.inl rfl) (Qag (Qxn T) (hr.mono (by omega)) rfl T.g_qaf T.F_qaf.kp T.B_qaf .nil Qam (Qa0 (pv 3) (Qa0 (pv 4) (Qa0 (pv 2) Qa5)))))))))
   (Qa4 (Qae (pv 2)))),?_⟩
  obtain ⟨dx,hr'⟩:=R.ob
  refine ⟨_,rfl,r,dx,_,rfl,hr',rfl,_,rfl,r,tl,al,as,os,T',p,rfl,R,hos,g,?_⟩
  unfold Res
  cases lv:Vaarra.atom (Vaarra.level m) (T'.drop p) with
  | error f=>exact res.err (by unfold Vaarra.fn;rw [lv];rfl)
  | ok z =>
   obtain ⟨f1,ts1⟩:=z
   intro H1 y1 p1 hp1 g1 k1 R1 b1 fa1
   have fe:Vaarra.fn (Vaarra.level m) (T'.drop p) = Vaarra.mods ((T'.drop p1).length + 1) f1 (T'.drop p1):=by unfold Vaarra.fn;rw [lv,hp1];rfl
   refine ⟨fun t σ H'=>∃ (p' n:Nat) (f:Vaarra.Fun) (y:Addr) (md rk:Option V),t = T'.length - p'∧σ = [some (.ref r),some (.int (30 - (m:Int))),some (.ref y),md,rk]∧Kept r al H H'∧Rd a H' r tl al as (os ++ Vaarra.funAtoms f) T' p'∧(os ++ Vaarra.funAtoms f).length ≤ p'∧Good (T'.drop p')∧FAt a.c_Node (New H H') f y∧(T'.drop p').length < n∧Vaarra.fn (Vaarra.level m) (T'.drop p) = Vaarra.mods n f (T'.drop p'),
    ⟨_,p1,_,f1,y1,none,none,rfl,rfl,k1,R1,b1,g1,fa1,Nat.lt_succ_self _,fe⟩,?_⟩
   rintro t σ H' ⟨p',n,f,y,md,rk,rfl,rfl,kp,R',b',g',fa,hn,e⟩
   obtain ⟨q,ts,hq⟩:=g'.cons
   obtain ⟨n,rfl⟩ : ∃ n',n = n' + 1:=⟨n - 1,by omega⟩
   have lt:p' < T'.length:=by
    rcases Nat.lt_or_ge p' T'.length with h | h
    ·exact h
    ·rw [List.drop_eq_nil_of_le h] at hq;cases hq
   have e2:T'.drop (p' + 1) = ts:=(Qan hq).2
   have hl:ts.length < n:=by rw [hq,List.length_cons] at hn;omega
   refine Qh8 4 rfl R' hq (by decide) (by decide) rfl ?_
   by_cases h4:kc q.2 = 4
   ·rw [decide_eq_true h4]
    refine iteT ⟨fun σ' H2=>∃ m',m' < T'.length - p'∧_,fun _ _ h=>h,?_⟩
    obtain ⟨d',hr1⟩:=R'.ob
    obtain ⟨s,hs⟩:=Qpm.mp h4
    obtain ⟨i,t⟩:=q
    obtain rfl:t = .mod s:=hs
    have g2:Good (T'.drop (p' + 1)):=by rw [e2];rw [hq] at g';exact g'.tail (by intro h;cases h)
    refine ⟨_,rfl,r,d',_,rfl,hr1,rfl,r,tl,al,as,_,T',p',_,_,rfl,R',hq,fun H2 yt x k2 R2 tk=>?_⟩
    obtain ⟨⟨dy,hy⟩,hx,hw⟩:=tk
    subst hx
    obtain ⟨d2,hr2⟩:=R2.ob
    have kk:=kp.trans k2
    have fa2:FAt a.c_Node (New H H2) f y:=fa.same (New.wide (Kept.refl r al H) k2 R)
    refine ⟨yt,_,dy,_,_,rfl,hy,T.cl_Token,T.n_Token_spelling,rfl,_,rfl,rfl,_,rfl,?_⟩
    rw [Qtk]
    by_cases hat:s = Vaarra.mAt
    ·rw [decide_eq_true hat]
     subst hat
     obtain ⟨q2,ts2,hq2⟩:=g2.cons
     have e3:T'.drop (p' + 2) = ts2:=(Qan hq2).2
     have e4:Vaarra.fn (Vaarra.level m) (T'.drop p) = Vaarra.mods (n + 1) f ((i, .mod Vaarra.mAt) :: q2 :: ts2):=by rw [e,hq,← e2,hq2]
     refine iteT ⟨_,rfl,r,d2,_,rfl,hr2,rfl,r,tl,al,as,_,T',p' + 1,q2,ts2,rfl,R2,hq2,fun kv hkv k0 k5 H3 k3 R3=>?_,fun hb=>res.err (f:=⟨3,q2.1⟩) (by rw [e4];exact Qrj hb)⟩
     obtain ⟨j,t⟩:=q2
     obtain rfl:t = .num kv:=hkv
     rw [Qpb,if_pos ⟨k0,k5⟩] at e4
     obtain ⟨d3,hr3⟩:=R3.ob
     have k3':=kk.trans k3
     refine ⟨(by show 1 ≤ sizeLine;decide),fun lr hlr=>?_⟩
     have lr0:H lr = none:=k3'.free' R3 hlr
     have s3:Same H3 (L2.upd H3 lr (.lst [.int kv])):=Qaj (Same.refl _) hlr
     have fa3:FAt a.c_Node (New H (L2.upd H3 lr (.lst [.int kv]))) f y:=fa2.same (New.wide (r:=r) (Kept.refl r al H) (k3.trans (Same.kept s3)) R)
     refine ⟨_,rfl,_,rfl,_,rfl,_,lr,y,_,rfl,fa3.depth.same New.sub,fun H4 z dz lp n1 n3 sm o1 o3=>?_⟩
     have k4:Kept r al H H4:=k3'.trans ((Same.kept s3).trans (Same.kept sm))
     have fr:∀ {b:Addr},L2.upd H3 lr (.lst [.int kv]) b = none→H b = none:=fun {b} hb=>k3'.free' R3 (s3.free hb)
     have g3:Good (T'.drop (p' + 2)):=by rw [e3];rw [hq2] at g2;exact g2.tail (by intro h;cases h)
     refine ⟨_,(by omega:T'.length - (p' + 2) < T'.length - p'),p' + 2,n, .mod (.at_ kv.toNat) f,z,_,_,rfl,rfl,k4,((R3.same s3).same sm).os (by simp only [Vaarra.funAtoms]),(by simp only [Vaarra.funAtoms];omega),g3,?_,?_,by rw [e4,e3]⟩
     ·refine Qq4 (fa3.same (New.wide (r:=r) (Kept.refl r al H) (Same.kept sm) R)) (New.at (fr n1) o1) (New.at lr0 (sm _ _ ?_)) (New.at (fr n3) o3)
      rw [Qa3];show some (HO.lst [V.int kv]) = some (HO.lst [V.int ((kv.toNat:Nat):Int)]);rw [show ((kv.toNat:Nat):Int) = kv by omega]
     ·rw [e3];rw [← e2,hq2,List.length_cons] at hl;omega
    ·rw [decide_eq_false hat]
     obtain ⟨M,m1,m2,m3⟩:=Qni hw hat
     refine iteF ⟨Nat.zero_le _,fun lr hlr=>?_⟩
     have lr0:H lr = none:=kk.free' R2 hlr
     have s3:Same H2 (L2.upd H2 lr (.lst [])):=Qaj (Same.refl _) hlr
     have fa3:FAt a.c_Node (New H (L2.upd H2 lr (.lst []))) f y:=fa2.same (New.wide (r:=r) (Kept.refl r al H) (Same.kept s3) R)
     refine ⟨_,rfl,_,rfl,_,rfl,_,lr,y,_,rfl,fa3.depth.same New.sub,fun H4 z dz lp n1 n3 sm o1 o3=>?_⟩
     have k4:Kept r al H H4:=kk.trans ((Same.kept s3).trans (Same.kept sm))
     have fr:∀ {b:Addr},L2.upd H2 lr (.lst []) b = none→H b = none:=fun {b} hb=>kk.free' R2 (s3.free hb)
     refine ⟨_,(by omega:T'.length - (p' + 1) < T'.length - p'),p' + 1,n, .mod M f,z,_,_,rfl,rfl,k4,((R2.same s3).same sm).os (by simp only [Vaarra.funAtoms]),(by simp only [Vaarra.funAtoms];omega),g2,?_,by rw [e2];exact hl,by rw [e,hq,m3,e2]⟩
     refine Qq4 (fa3.same (New.wide (r:=r) (Kept.refl r al H) (Same.kept sm) R)) (New.at (fr n1) (by rw [m1];exact o1)) (New.at lr0 (sm _ _ ?_)) (New.at (fr n3) o3)
     rw [Qa3,m2]
   ·rw [decide_eq_false h4]
    exact iteF ⟨_,rfl,res.ok (by rw [e,hq,Qkn h4]) H' y p' hq g' kp R' b' fa⟩
end
def But (H H':Hp) (W:Addr):Hp:=fun b=>if b = W then none else New H H' b
theorem But.at {H H':Hp} {W b:Addr} {o:HO} (ne:b ≠ W) (h0:H b = none) (h1:H' b = some o):But H H' W b = some o:=by unfold But;rw [if_neg ne];exact New.at h0 h1
theorem But.get {H H':Hp} {W b:Addr} {o:HO} (h:But H H' W b = some o):b ≠ W∧H b = none∧H' b = some o:=by
 unfold But at h
 by_cases q:b = W
 ·rw [if_pos q] at h;cases h
 ·rw [if_neg q] at h;exact ⟨q,New.get h⟩
theorem But.kept {a:Ad} {r tl al W:Addr} {as:List Addr} {os:List Nat} {T:Vaarra.Toks} {p:Nat} {H H1 H2:Hp} (R:Rd a H r tl al as os T p) (k:Kept r al H1 H2):Same (But H H1 W) (But H H2 W):=fun b o' h=>by
 obtain ⟨h1,h2,h3⟩:=But.get h
 exact But.at h1 h2 (k _ _ h3 (R.far h2))
theorem But.new {a:Ad} {r tl al W:Addr} {as:List Addr} {os:List Nat} {T:Vaarra.Toks} {p:Nat} {H H1 H2:Hp} {oW:HO} (R:Rd a H1 r tl al as os T p) (k:Kept r al H H1) (hW:H1 W = some oW):Same (New H1 H2) (But H H2 W):=fun b o' h=>by
 obtain ⟨h1,h2⟩:=New.get h
 exact But.at (fun q=>by rw [q,hW] at h1;cases h1) (k.free' R h1) h2
theorem But.upd {W:Addr} {H H1:Hp} {o:HO}:Same (But H H1 W) (But H (L2.upd H1 W o) W):=fun b o' h=>by
 obtain ⟨h1,h2,h3⟩:=But.get h
 exact But.at h1 h2 (by rw [Qa6 h1];exact h3)
theorem But.sub {H H':Hp} {W:Addr}:Same (But H H' W) H':=fun b o h=>(But.get h).2.2
theorem Qef {α β : Type} {R : α→β→Prop} {x : α} {y : β}:∀ {l:List α} {m:List β},Paired R l m→R x y→Paired R (l ++ [x]) (m ++ [y])
 | _,_, .nil,h=>.cons h .nil
 | _,_, .cons h t,h2=>.cons h (Qef t h2)
theorem Qgq {sub:Vaarra.Read Vaarra.Expr} {n:Nat} {ts:Vaarra.Toks} (h:Vaarra.beginsOperand (Vaarra.next ts) = true):Vaarra.chain sub (n + 1) ts = (Vaarra.operand sub ts).bind fun a =>
   if Vaarra.beginsFun (Vaarra.next a.2) then (Vaarra.fn sub a.2).bind fun f=>Vaarra.also (fun b=>.two a.1 f.1 b) (Vaarra.chain sub n f.2) else .ok a:=by
 rw [Vaarra.chain,if_pos h]
theorem Qgt {sub:Vaarra.Read Vaarra.Expr} {n:Nat} {ts:Vaarra.Toks} (h:Vaarra.beginsOperand (Vaarra.next ts) = false):Vaarra.chain sub (n + 1) ts = (Vaarra.fn sub ts).bind fun f=>Vaarra.also (fun b=>.one f.1 b) (Vaarra.chain sub n f.2):=by
 rw [Vaarra.chain,if_neg (by rw [h];exact Bool.false_ne_true)]
def wA (ws:List (Option Vaarra.Expr × Vaarra.Fun)):List Nat:=ws.flatMap fun w=>(match w.1 with | none=>[] | some e=>Vaarra.exprAtoms e) ++ Vaarra.funAtoms w.2
def lA (l:Option Vaarra.Expr):List Nat:=match l with
 | none=>[]
 | some e=>Vaarra.exprAtoms e
theorem Qo0 (ws:List (Option Vaarra.Expr × Vaarra.Fun)) (l:Option Vaarra.Expr) (f:Vaarra.Fun):wA (ws ++ [(l,f)]) = wA ws ++ lA l ++ Vaarra.funAtoms f:=by
 unfold wA
 rw [List.flatMap_append,List.append_assoc]
 cases l <;> simp [lA]
theorem Qqn (l:Option Vaarra.Expr) (f:Vaarra.Fun) (e:Vaarra.Expr):Vaarra.exprAtoms (app l f e) = lA l ++ Vaarra.funAtoms f ++ Vaarra.exprAtoms e:=by
 cases l <;> simp [app,lA,Vaarra.exprAtoms]
theorem Qez:∀ (ws:List (Option Vaarra.Expr × Vaarra.Fun)) (e:Vaarra.Expr),Vaarra.exprAtoms (wrap ws e) = wA ws ++ Vaarra.exprAtoms e
 | [],e=>rfl
 | (l,f) :: r,e=>by
  show Vaarra.exprAtoms (app l f (wrap r e)) = _
  rw [Qqn,Qez r e]
  cases l <;> simp [wA,lA]
section
variable {P : Program} {w : World} {K : PySem.W.Frag} {mg : Str → Option Value} {base : Heap} {a : Ad}
theorem Qh0 (T:Txt K mg a):FnOk P w K mg base (CX1 P w) 6 a.f_qb a.fd_qb ["self", "level"] (spE K a 0):=by
 refine T.F_qb.okX Qu0 (fun vs H Q E h=>?_) (fun cdv A outer s H vs Q E hr h=>?_)
 ·obtain ⟨r,tl,al,as,os,T',p,rfl,_⟩:=h
  rfl
 ·obtain ⟨r,tl,al,as,os,T',p,rfl,R,hos,g,res⟩:=h
  refine ⟨_,Qa2 (Qb6 (Qac Qg8 (pv 1) (Qed T.g_MOST_LEVELS (by rfl)) (Qap _))
    (Qa4 (Qc8 rfl Qc7 T.em_DeepFault (Qxs T) (hr.mono (by decide)) (by rfl) T.g_DeepFault T.B_qaa (Qab (Qcd Qbw (Qab (pv 0) (by rfl)) (Qab (pv 0) (by rfl)) (fun _ _=>rfl)) (by rfl)))) Qak) Qiy,?_⟩
  obtain ⟨dx,hr'⟩:=R.ob
  obtain ⟨q,ts,hq⟩:=g.cons
  obtain ⟨y,x,h1,⟨dy,h2⟩,h3⟩:=R.tok (Qan hq).1
  refine ⟨_,rfl,_,_,rfl,rfl,_,rfl,?_⟩
  rw [decide_eq_true (show (30:Int) < 31 - ((0:Nat):Int) by omega)]
  refine iteT ⟨_,rfl,r,_,dx,_,_,rfl,hr',T.cl_Reader,T.n_Reader_tokens,rfl,_,rfl,r,_,dx,_,_,rfl,hr',T.cl_Reader,T.n_Reader_place,rfl,?_⟩
  refine ⟨tl,_,_,_,rfl,rfl,SqL.of R.ls,Qcq h1,y,_,dy,_,_,rfl,h2,T.cl_Token,T.n_Token_position,rfl,?_⟩
  exact Qbk (Qjr T) (res.err (f:=⟨4,q.1⟩) (by rw [hq];rfl))
theorem Qgz (T:Txt K mg a) {m k:Nat} (hk : 6 ≤ k) (O:FnOk P w K mg base (CX1 P w) k a.f_qe a.fd_qe ["self", "level"] (spO K a m)) (F:FnOk P w K mg base (CX1 P w) k a.f_qd a.fd_qd ["self", "level"] (spF K a m)) :
  FnOk P w K mg base (CX1 P w) (k + 1) a.f_qb a.fd_qb ["self", "level"] (spE K a (m + 1)):=by
 refine T.F_qb.okX Qu0 (fun vs H Q E h=>?_) (fun cdv A outer s H vs Q E hr h=>?_)
 ·obtain ⟨r,tl,al,as,os,T',p,rfl,_⟩:=h
  rfl
 ·obtain ⟨r,tl,al,as,os,T',p,rfl,R,hos,g,res⟩:=h
  have nd:=Qu0.nd
  refine ⟨_,Qa2 (Qb6 (Qac Qg8 (pv 1) (Qed T.g_MOST_LEVELS (by rfl)) (Qap _)) Qiy Qak)
   (Qa2 (Qao (i:=2) nd rfl (Or.inl rfl) (Qc0 Qa5))
   (Qa4 (Qd5 own1 (Qcs Qu6)
    (Qa2 (Qao (i:=3) nd rfl (Or.inl rfl) Qwz)
    (Qa2 (Qb6 (Qac Qbh (Qay (pv 0) T.cl_Reader T.m_qt (Qb4 T) (hr.mono (by omega)) T.B_qt .nil Qam) (Qbp (v:=.ref a.p_OPERAND_BEGINS) (by rfl) T.g_OPERAND_BEGINS rfl) (by with_unfolding_all rfl))
     (Qa2 (Qao (i:=3) nd rfl (Or.inl rfl) (Qb8 (pv 0) T.cl_Reader T.m_qe O hr T.B_qe .nil Qbq (Qa0 (pv 1) Qa5)))
     (Qa4 (Qb6 (Qac Qdr (Qay (pv 0) T.cl_Reader T.m_qt (Qb4 T) (hr.mono (by omega)) T.B_qt .nil Qam) (Qbp (v:=.ref a.p_FUNCTION_BEGINS) (by rfl) T.g_FUNCTION_BEGINS rfl) (by with_unfolding_all rfl))
      (Qa4 (Qae (Qag (ok_qg T) (hr.mono hk) rfl T.g_qg T.F_qg.kp T.B_qg .nil Qam (Qa0 (pv 2) (Qa0 (pv 3) Qa5))))) Qak))) Qak)
    (Qa4 (Qaw (Qj1 PySem.F.plainAttrs_list PySem.F.slot_list_append PySem.F.type_list_append Qcn (pv 2) (Qa0 (Qwx (Qa0 (pv 3) (Qa0 (Qb8 (pv 0) T.cl_Reader T.m_qd F hr T.B_qd .nil Qbq (Qa0 (pv 1) Qa5)) Qa5))) Qa5))))))))),?_⟩
  obtain ⟨dx,hr'⟩:=R.ob
  have lvl:(31:Int) - ((m + 1:Nat):Int) = 30 - (m:Int):=by omega
  refine ⟨_,rfl,_,_,rfl,rfl,_,rfl,?_⟩
  rw [decide_eq_false (show ¬ (30:Int) < 31 - ((m + 1:Nat):Int) by omega)]
  refine iteF ⟨Nat.zero_le _,fun W hW=>?_⟩
  have ner:Far r al W:=R.far hW
  rw [lvl]
  refine ⟨fun t σ H'=>∃ (p' n:Nat) (tws:List Addr) (ws:List (Option Vaarra.Expr × Vaarra.Fun)) (lf:Option V),t = (T'.drop p').length∧σ = [some (.ref r),some (.int (30 - (m:Int))),some (.ref W),lf]∧Kept r al H H'∧Rd a H' r tl al as (os ++ wA ws) T' p'∧(os ++ wA ws).length ≤ p'∧Good (T'.drop p')∧H' W = some (.lst (tws.map V.ref)) ∧
    Paired (Qey a.c_Node (But H H' W)) tws ws∧ws.length + (T'.drop p').length ≤ T'.length∧(T'.drop p').length < n∧Vaarra.level (m + 1) (T'.drop p) = Qk6 ws (Vaarra.chain (Vaarra.level m) n (T'.drop p')),
   ⟨_,p,(T'.drop p).length + 1,[],[],none,rfl,rfl,(Kept.refl r al H).upd hW,(R.upd (Kept.refl r al H) R hW).os (List.append_nil _).symm,(by show (os ++ []).length ≤ p;rw [List.append_nil];exact hos),g,Qa3, .nil,by rw [List.length_drop];show 0 + _ ≤ _;omega,Nat.lt_succ_self _,by rw [Qnx];rfl⟩,?_⟩
  rintro t σ H' ⟨p',n,tws,ws,lf,rfl,rfl,kp,R',b',g',hW',hp,sz,hn,e⟩
  obtain ⟨n,rfl⟩ : ∃ n',n = n' + 1:=⟨n - 1,by omega⟩
  obtain ⟨q,ts,hq⟩:=g'.cons
  obtain ⟨d1,hr1⟩:=R'.ob
  obtain ⟨_,_,_,tk0⟩:=R'.tok (Qan hq).1
  have wf:=tk0.wf
  refine ⟨_,rfl,iteT ⟨fun σ' H2=>∃ m',m' < (T'.drop p').length∧_,fun _ _ h=>h,?_⟩⟩
  -- what is behind a function that waits
  have turn:∀ (l:Option Vaarra.Expr) (lo:Option Addr) (H1:Hp) (p1:Nat),Kept r al H' H1→Rd a H1 r tl al as (os ++ wA ws ++ lA l) T' p1→(os ++ wA ws ++ lA l).length ≤ p1→Good (T'.drop p1)→(T'.drop p1).length ≤ (T'.drop p').length→LAt a.c_Node (But H H1 W) l lo →
    Vaarra.level (m + 1) (T'.drop p) = Qk6 ws ((Vaarra.fn (Vaarra.level m) (T'.drop p1)).bind fun f=>Vaarra.also (app l f.1) (Vaarra.chain (Vaarra.level m) n f.2)) →
    tBM K "list" Qor (tVar 2) (Qec (tTup (Qec (tVar 3) (Qec (Qm5 a.c_Reader "read_function" (spF K a m) [] E (tVar 0) (Qec (tVar 1) tNil)) tNil))) tNil) [some (V.ref r),some (V.int (30 - (m:Int))),some (V.ref W),some (lV lo)] H1
     (fun _ H2=>∃ m',m' < (T'.drop p').length∧∃ (p' n:Nat) (tws:List Addr) (ws:List (Option Vaarra.Expr × Vaarra.Fun)) (lf:Option V),m' = (T'.drop p').length∧[some (V.ref r),some (V.int (30 - (m:Int))),some (V.ref W),some (lV lo)] = [some (.ref r),some (.int (30 - (m:Int))),some (.ref W),lf]∧Kept r al H H2∧Rd a H2 r tl al as (os ++ wA ws) T' p'∧(os ++ wA ws).length ≤ p'∧Good (T'.drop p')∧H2 W = some (.lst (tws.map V.ref)) ∧
      Paired (Qey a.c_Node (But H H2 W)) tws ws∧ws.length + (T'.drop p').length ≤ T'.length∧(T'.drop p').length < n∧Vaarra.level (m + 1) (T'.drop p) = Qk6 ws (Vaarra.chain (Vaarra.level m) n (T'.drop p'))):=by
   intro l lo H1 p1 k1 R1 b1 g1 len1 hl e1
   obtain ⟨d2,hr2⟩:=R1.ob
   have hW1:H1 W = some (.lst (tws.map V.ref)):=k1 _ _ hW' ner
   refine ⟨_,rfl, .inl ⟨rfl,_,SqL.of hW1⟩,_,rfl,_,rfl,r,d2,_,rfl,hr2,rfl,_,rfl,r,tl,al,as,_,T',p1,rfl,R1,b1,g1,?_⟩
   unfold Res
   cases lv:Vaarra.fn (Vaarra.level m) (T'.drop p1) with
   | error f=>exact res.err (by rw [e1,lv];rfl)
   | ok z =>
    obtain ⟨f,ts2⟩:=z
    intro H2 y2 p2 hp2 g2 k2 R2 b2 fa
    have len2:(T'.drop p2).length < (T'.drop p1).length:=by rw [hp2];exact Qlr (Qds m) _ _ _ lv
    obtain ⟨d3,hr3⟩:=R2.ob
    have hW2:H2 W = some (.lst (tws.map V.ref)):=k2 _ _ hW1 ner
    refine ⟨(by show 2 ≤ sizeLine;decide),fun tp htp=>?_⟩
    have k0:Kept r al H H1:=kp.trans k1
    have kk:Kept r al H H2:=k0.trans k2
    have tp0:H tp = none:=kk.free' R2 htp
    have netp:tp ≠ W:=Ne.symm (Qa7 hW2 htp)
    have s3:Same H2 (L2.upd H2 tp (.tup [lV lo, .ref y2])):=Qaj (Same.refl _) htp
    have hW3:L2.upd H2 tp (.tup [lV lo, .ref y2]) W = some (.lst (tws.map V.ref)):=s3 _ _ hW2
    refine ⟨W,_,_,rfl,rfl,hW3,?_,?_⟩
    ·rw [List.length_map,Qbi hp];have:=R.sz;exact Nat.lt_of_le_of_lt (show ws.length ≤ 2049 by omega) (by decide)
    have mono:Same (But H H1 W) (But H (L2.upd (L2.upd H2 tp (.tup [lV lo, .ref y2])) W (.lst (tws.map V.ref ++ [.ref tp]))) W):=fun b o h=>But.upd _ _ (But.kept R (Same.kept (r:=r) s3) _ _ (But.kept R k2 _ _ h))
    have mono0:Same (But H H' W) (But H H1 W):=But.kept R k1
    have mono2:Same (New H1 H2) (But H (L2.upd (L2.upd H2 tp (.tup [lV lo, .ref y2])) W (.lst (tws.map V.ref ++ [.ref tp]))) W):=fun b o h=>But.upd _ _ (But.kept R (Same.kept (r:=r) s3) _ _ (But.new R1 k0 hW1 _ _ h))
    have k4:Kept r al H (L2.upd H2 tp (.tup [lV lo, .ref y2])):=kk.upd tp0
    have R4:Rd a (L2.upd H2 tp (.tup [lV lo, .ref y2])) r tl al as (os ++ wA (ws ++ [(l,f)])) T' p2:=(R.upd kk R2 tp0).os (by rw [Qo0];simp)
    refine ⟨_,(by omega:(T'.drop p2).length < (T'.drop p').length),p2,n,tws ++ [tp],ws ++ [(l,f)],_,rfl,rfl,k4.upd hW,R.upd k4 R4 hW,(by rw [Qo0];simpa using b2),g2,?_,?_,?_,by omega,?_⟩
    ·rw [Qa3,List.map_append];rfl
    ·refine Qef (Qav (fun _ _ h=>Qey.same mono (Qey.same mono0 h)) hp) ⟨lo,y2,?_,hl.same mono,fa.same mono2⟩
     exact But.at netp tp0 (by rw [Qa6 netp,Qa3])
    ·rw [List.length_append,List.length_singleton];omega
    ·rw [e1,lv,Qm0,hp2];rfl
  refine Qk8 (K:=K) (L:=[[110,117,109,98,101,114],[110,97,109,101],[40]]) rfl R' hq (T.q_OPERAND_BEGINS _) Qnn ?_
  rw [if_neg Bool.false_ne_true,← Qh4 wf]
  have nx:Vaarra.next (T'.drop p') = q.2:=by rw [hq];rfl
  cases hb:Vaarra.beginsOperand q.2
  case false =>
   refine iteF ?_
   refine turn none none H' p' (Kept.refl r al H') (R'.os (List.append_nil _).symm) (by show (os ++ wA ws ++ []).length ≤ p';rw [List.append_nil];exact b') g' (Nat.le_refl _) trivial ?_
   rw [e,Qgt (by rw [nx];exact hb)];rfl
  case true =>
   refine iteT ⟨_,rfl,r,d1,_,rfl,hr1,rfl,_,rfl,r,tl,al,as,_,T',p',rfl,R',b',g',?_⟩
   rw [Qgq (by rw [nx];exact hb)] at e
   unfold Res
   cases lv:Vaarra.operand (Vaarra.level m) (T'.drop p') with
   | error f=>exact res.err (by rw [e,lv];rfl)
   | ok z =>
    obtain ⟨ex,ts1⟩:=z
    intro H1 y1 p1 hp1 g1 k1 R1 b1 ea
    replace hp1:T'.drop p1 = ts1:=hp1
    obtain ⟨q1,ts2,hq1⟩:=g1.cons
    obtain ⟨_,_,_,tk1⟩:=R1.tok (Qan hq1).1
    obtain ⟨d2,hr2⟩:=R1.ob
    have hW1:H1 W = some (.lst (tws.map V.ref)):=k1 _ _ hW' ner
    have nx1:Vaarra.next ts1 = q1.2:=by rw [← hp1,hq1];rfl
    have ea1:EAt a.c_Node (But H H1 W) ex y1:=ea.same (But.new R' kp hW')
    refine Qk8 (K:=K) (L:=[[112,114,105,109,105,116,105,118,101],[119,111,114,100],[123]]) rfl R1 hq1 (T.q_FUNCTION_BEGINS _) Qy6 ?_
    rw [if_pos rfl,← Qnv tk1.wf]
    rw [lv] at e
    replace e:Vaarra.level (m + 1) (T'.drop p) = Qk6 ws (if Vaarra.beginsFun (Vaarra.next ts1) then (Vaarra.fn (Vaarra.level m) ts1).bind fun f=>Vaarra.also (fun b=>.two ex f.1 b) (Vaarra.chain (Vaarra.level m) n f.2) else .ok (ex,ts1)):=e
    rw [nx1] at e
    cases hf:Vaarra.beginsFun q1.2
    case true =>
     rw [hf,if_pos rfl] at e
     refine iteF ?_
     refine turn (some ex) (some y1) H1 p1 k1 R1 b1 g1 ?_ ea1 ?_
     ·rw [hp1];exact Nat.le_of_lt (Qg7 (Qds m) _ _ _ lv)
     ·rw [e,hp1];rfl
    case false =>
     rw [hf,if_neg Bool.false_ne_true] at e
     refine iteT ⟨_,rfl,_,rfl,W,y1,But H H1 W,tws,ws,ex,rfl,hW1,But.sub,Qav (fun _ _ h=>Qey.same (But.kept R k1) h) hp,ea1,fun H2 y2 sm er=>?_⟩
     refine res.ok (v:=wrap ws ex) (ts:=ts1) e H2 y2 p1 hp1 g1 ((kp.trans k1).trans (Same.kept sm)) ((R1.same sm).os (by rw [Qez,List.append_assoc])) (by rw [Qez,← List.append_assoc];exact b1) (er.same fun b o h=>?_)
     rcases Un.get h with h | h
     ·obtain ⟨_,h2,h3⟩:=But.get h
      exact New.at h2 (sm _ _ h3)
     ·exact New.at ((kp.trans k1).free' R1 h.1) h.2
theorem Qeq (T:Txt K mg a):∀ n,FnOk P w K mg base (CX1 P w) (3 * n + 6) a.f_qb a.fd_qb ["self", "level"] (spE K a n)
 | 0=>Qh0 T
 | n + 1=>by
  have IH:=Qeq T n
  have O:=Qgb T (by omega) IH
  have F:=Qdg T (by omega) (Qfh T (by omega) IH)
  exact Qgz T (k:=3 * n + 8) (by omega) (O.mono (by omega)) F
theorem Qjb (T:Txt K mg a) (n:Nat):FnOk P w K mg base (CX1 P w) (3 * n + 8) a.f_qd a.fd_qd ["self", "level"] (spF K a n) :=
 Qdg T (by omega) (Qfh T (by omega) (Qeq T n))
end
def GAt (C:Addr) (G:Hp):Vaarra.Gift→Addr→Prop
 | .expr e,b=>EAt C G e b
 | .fn f,b=>FAt C G f b
theorem GAt.same {C:Addr} {G G':Hp} (s:Same G G'):∀ {g:Vaarra.Gift} {b:Addr},GAt C G g b→GAt C G' g b
 | .expr _,_,h=>EAt.same s h
 | .fn _,_,h=>FAt.same s h
def msG:Vaarra.Gift→Ms
 | .expr e=>msE e
 | .fn f=>msF f
theorem msG_d (g:Vaarra.Gift):(msG g).d = Vaarra.giftDepth g:=by cases g <;> rfl
theorem GAt.depth {C:Addr} {G:Hp}:∀ {g:Vaarra.Gift} {b:Addr},GAt C G g b→Qbb C G b (msG g)
 | .expr _,_,h=>EAt.depth h
 | .fn _,_,h=>FAt.depth h
def sf (x:List Nat) (b:Addr):List (Str × V):=[("name", .str (ss x)),("node", .ref b)]
def StAt (a:Ad) (G:Hp) (b:Addr) (s:Vaarra.Stmt):Prop:=∃ dx bn,G b = some (.ins a.c_Statement dx (sf s.name bn))∧GAt a.c_Node G s.gift bn
theorem StAt.same {a:Ad} {G G':Hp} (k:Same G G') {b:Addr} {s:Vaarra.Stmt} (h:StAt a G b s):StAt a G' b s:=let ⟨dx,bn,h1,h2⟩:=h; ⟨dx,bn,k _ _ h1,h2.same k⟩
def pf (ls be la li:Addr) (d:Nat):List (Str × V):=[("statements", .ref ls),("expression", .ref be),("atoms", .ref la),("inputs", .ref li),("depth", .int d)]
def insV (l:List (List Nat)):List V:=l.map fun x=>V.str (ss x)
def PAt (a:Ad) (G:Hp) (p:Vaarra.Program) (b:Addr):Prop:=∃ dx ls be la li sts,G b = some (.ins a.c_Program dx (pf ls be la li (Vaarra.depth p)))∧G ls = some (.lst (sts.map V.ref))∧Paired (StAt a G) sts p.stmts∧EAt a.c_Node G p.last be∧G la = some (.lst (osV (Vaarra.atoms p)))∧G li = some (.lst (insV (Vaarra.inputs p)))
def sds (l:List Vaarra.Stmt):List Nat:=l.map fun s=>Vaarra.giftDepth s.gift
theorem Qq0 (l:List Vaarra.Stmt):∀ n,l.foldl (fun n s=>max n (Vaarra.giftDepth s.gift)) n = max n (maxl (sds l)):=by
 induction l with
 | nil=>intro n;show n = max n 0;rw [Nat.max_eq_left (Nat.zero_le n)]
 | cons s r ih=>intro n;show r.foldl _ (max n _) = max n (max _ (maxl (sds r)));rw [ih,Nat.max_assoc]
theorem Qlk (l:List Nat) (d:Nat):maxl (l ++ [d]) = max d (maxl l):=by
 induction l with
 | nil=>rfl
 | cons x r ih=>show max x (maxl (r ++ [d])) = max d (max x (maxl r));rw [ih];omega
theorem Qlv (p:Vaarra.Program):Vaarra.depth p = maxl (sds p.stmts ++ [Vaarra.exprDepth p.last]):=by rw [Qlk];exact Qq0 _ _
section
variable {P : Program} {w : World} {K : PySem.W.Frag} {mg : Str → Option Value} {base : Heap} {a : Ad}
def Qvb (a:Ad):Sp:=fun vs H Q _=>∃ x dx y b,vs = [.ref x, .str (ss y), .ref b]∧H x = some (.ins a.c_Statement dx [])∧∀ H',H' x = some (.ins a.c_Statement dx (sf y b))→(∀ b o,H b = some o→b ≠ x→H' b = some o)→Q .non H'
theorem Qxr (T:Txt K mg a):FnOk P w K mg base CX0 1 a.f_qab a.fd_qab ["self", "name", "node"] (Qvb a):=by
 refine T.F_qab.ok Qwo (fun vs H Q E h=>?_) (fun cdv A outer s H vs Q E hr h=>?_)
 ·obtain ⟨x,dx,y,b,rfl,_⟩:=h
  rfl
 ·obtain ⟨x,dx,y,b,rfl,hx,k⟩:=h
  refine ⟨_,Qa2 (Qbu (pv 0) (pv 1) rfl) (Qa4 (Qbu (pv 0) (pv 2) rfl)),?_⟩
  have c:=T.cl_Statement
  refine ⟨_,rfl,_,rfl,x,_,dx,_,rfl,hx,c,T.n_Statement_name,(by show 0 < 1000;decide),?_⟩
  refine ⟨_,rfl,_,rfl,x,_,dx,_,rfl,Qa3,c,T.n_Statement_node,(by show 1 < 1000;decide),?_⟩
  exact k _ (by rw [Qa3];rfl) fun b o e n=>by rw [Qa6 n,Qa6 n];exact e
theorem Qll {y:List Nat} {b:Addr} {H:Hp} {F:Addr→Hp→Prop} {E:XK} (h:∀ H' x dx,H x = none→Same H H'→H' x = some (.ins a.c_Statement dx (sf y b))→F x H'):∀ x dx,H x = none→H dx = none→dx ≠ x →
  Qvb a (.ref x :: ([.str (ss y), .ref b] ++ [])) (upd (upd H dx (.own x)) x (.ins a.c_Statement dx [])) (fun v H2=>v = .non∧F x H2) E:=by
 intro x dx hx hd ne
 have k1:∀ b o,H b = some o→upd (upd H dx (.own x)) x (.ins a.c_Statement dx []) b = some o:=fun b o e=>by rw [Qa6 (Qa7 e hx),Qa6 (Qa7 e hd)];exact e
 exact ⟨x,dx,y,b,rfl,Qa3,fun H' e1 e2=>⟨rfl,h H' x dx hx (fun b o e=>e2 b o (k1 b o e) (Qa7 e hx)) e1⟩⟩
def Qvf (a:Ad):Sp:=fun vs H Q _=>∃ (x dx ls be la li:Addr) (sts:List Addr) (pr:Vaarra.Program),vs = [.ref x, .ref ls, .ref be, .ref la, .ref li]∧H x = some (.ins a.c_Program dx [])∧H ls = some (.lst (sts.map V.ref))∧pr.stmts.length ≤ 2049∧Paired (StAt a H) sts pr.stmts∧EAt a.c_Node H pr.last be ∧
 ∀ H',H' x = some (.ins a.c_Program dx (pf ls be la li (Vaarra.depth pr)))→(∀ b o,H b = some o→b ≠ x→H' b = some o)→Q .non H'
theorem Qxj (T:Txt K mg a):FnOk P w K mg base CX0 1 a.f_qak a.fd_qak ["self", "statements", "expression", "atoms", "inputs"] (Qvf a):=by
 refine T.F_qak.ok Qsz (fun vs H Q E h=>?_) (fun cdv A outer s H vs Q E hr h=>?_)
 ·obtain ⟨x,dx,ls,be,la,li,sts,pr,rfl,_⟩:=h
  rfl
 ·obtain ⟨x,dx,ls,be,la,li,sts,pr,rfl,hx,hls,hlen,hst,he,k⟩:=h
  have nd:=Qsz.nd
  refine ⟨_,Qa2 (Qbu (pv 0) (pv 1) rfl) (Qa2 (Qbu (pv 0) (pv 2) rfl) (Qa2 (Qbu (pv 0) (pv 3) rfl) (Qa2 (Qbu (pv 0) (pv 4) rfl)
   (Qa4 (Qbu (pv 0) (Qbf (Qyf rfl) (by rfl) T.z_max PyProof.Rows.boot_max (Qa0 (Qbl Qt5
    (Qnc (te:=tFld K (tFld K (tVar 5) "node") "depth") (own:=[("statement",5)]) rfl nd (Qd6 (pv 1)) (Qck (by rfl)) (fun s H C cl fp=>Qci (i:=5) nd rfl (Or.inl rfl)) (fun s H C cl fp=>Qdo) (fun s H C cl fp=>Qab (Qab (pv 5) (by rfl)) (by rfl)))
    (Qc0 (Qa0 (Qab (pv 2) (by rfl)) Qa5))) Qa5)) rfl))))),?_⟩
  have c:=T.cl_Program
  refine ⟨_,rfl,_,rfl,x,_,dx,_,rfl,hx,c,T.n_Program_statements,(by show 0 < 1000;decide),?_⟩
  refine ⟨_,rfl,_,rfl,x,_,dx,_,rfl,Qa3,c,T.n_Program_expression,(by show 1 < 1000;decide),?_⟩
  refine ⟨_,rfl,_,rfl,x,_,dx,_,rfl,Qa3,c,T.n_Program_atoms,(by show 2 < 1000;decide),?_⟩
  refine ⟨_,rfl,_,rfl,x,_,dx,_,rfl,Qa3,c,T.n_Program_inputs,(by show 3 < 1000;decide),?_⟩
  obtain ⟨H4,hH4⟩ : ∃ H4,H4 = upd (upd (upd (upd H x (.ins a.c_Program dx (putF "statements" (.ref ls) []))) x (.ins a.c_Program dx (putF "expression" (.ref be) (putF "statements" (.ref ls) [])))) x (.ins a.c_Program dx (putF "atoms" (.ref la) (putF "expression" (.ref be) (putF "statements" (.ref ls) []))))) x (.ins a.c_Program dx (putF "inputs" (.ref li) (putF "atoms" (.ref la) (putF "expression" (.ref be) (putF "statements" (.ref ls) []))))):=⟨_,rfl⟩
  have e4:∀ b o,H b = some o→b ≠ x→H4 b = some o:=fun b o e ne=>by rw [hH4,Qa6 ne,Qa6 ne,Qa6 ne,Qa6 ne];exact e
  have x4:H4 x = some (.ins a.c_Program dx [("statements", .ref ls),("expression", .ref be),("atoms", .ref la),("inputs", .ref li)]):=by rw [hH4,Qa3];rfl
  rw [← hH4]
  have ls4:H4 ls = some (.lst (sts.map V.ref)):=e4 _ _ hls (Qc2 hls hx (by intro q;cases q))
  have D4:Paired (fun b d=>∃ dy bn fs,H4 b = some (.ins a.c_Statement dy fs)∧fs.lookup (Str.ofString "node") = some (V.ref bn)∧∃ m,Qbb a.c_Node H4 bn m∧m.d = d) sts (sds pr.stmts):=by
   unfold sds
   have:∀ {l:List Addr} {m:List Vaarra.Stmt},Paired (StAt a H) l m→Paired (fun b d=>∃ dy bn fs,H4 b = some (.ins a.c_Statement dy fs)∧fs.lookup (Str.ofString "node") = some (V.ref bn)∧∃ m,Qbb a.c_Node H4 bn m∧m.d = d) l (m.map fun s=>Vaarra.giftDepth s.gift):=by
    intro l m h
    induction h with
    | nil=>exact .nil
    | cons h _ ih =>
     refine .cons ?_ ih
     obtain ⟨dy,bn,h1,h2⟩:=h
     obtain ⟨dz,k',wd',ln',lp',h3,h4⟩:=h2.depth
     refine ⟨dy,bn,_,e4 _ _ h1 (Qc2 h1 hx (by intro q;have:=(HO.ins.inj q).2.2;exact absurd (congrArg List.length this) (by show ¬ 2 = 0;decide))),rfl,_,⟨dz,k',wd',ln',lp',e4 _ _ h3 (Qc2 h3 hx (Qub (by decide))),h4⟩,msG_d _⟩
   exact this hst
  have dl:sts.length = (sds pr.stmts).length:=Qbi D4
  have sl:(sds pr.stmts).length = pr.stmts.length:=by unfold sds;rw [List.length_map]
  refine ⟨_,rfl,ls,rfl,⟨_,SqL.of ls4⟩,fun D hD'=>?_⟩
  refine Qdu (K:=K) (a:=ls) (xs:=sts.map V.ref) (fun i H'=>H' D = some (.lst (((sds pr.stmts).take i).map fun (n:Nat)=>V.int n))∧Same H4 H') ⟨Qa3,fun b o e=>by rw [Qa6 (Qa7 e hD')];exact e⟩ (fun i H' _ h=>SqL.of (h.2 _ _ ls4)) (fun i v H' hx h=>?_) (fun H5 h=>?_)
  ·rw [List.getElem?_map] at hx
   obtain ⟨p,hp,rfl⟩:=Option.map_eq_some_iff.mp hx
   obtain ⟨d,hd,dy,bn,fs,h1,h2,md,⟨dz,k',wd',ln',lp',h3,h4⟩,rfl⟩:=Qbt D4 hp
   refine ⟨rfl,⟨_,rfl,p,_,dy,fs,_,rfl,h.2 _ _ h1,T.cl_Statement,T.n_Statement_node,h2,bn,_,dz,_,_,rfl,h.2 _ _ h3,T.cl_Node,T.n_Node_depth,rfl,_,h.1,?_,Qa3.trans ?_,Qaj h.2 hD'⟩⟩
   ·rw [List.length_map,List.length_take];exact Nat.lt_of_le_of_lt (Nat.min_le_right _ _) (Nat.lt_of_le_of_lt (by rw [sl];exact hlen) (by decide))
   ·rw [List.take_succ,hd];simp
  obtain ⟨hD5,sm⟩:=h
  rw [List.length_map,dl,List.take_length] at hD5
  obtain ⟨de,k',wd',ln',lp',g1,g2⟩:=he.depth
  have ge:H5 be = some (.ins a.c_Node de (nf k' wd' ln' lp' (msE pr.last))):=sm _ _ (e4 _ _ g1 (Qc2 g1 hx (Qub (by decide))))
  refine ⟨_,rfl,be,_,de,_,_,rfl,ge,T.cl_Node,T.n_Node_depth,rfl,(by show 1 ≤ sizeLine;decide),fun l1 hl1=>?_⟩
  have s1:Same H5 (upd H5 l1 (.lst [.int (Vaarra.exprDepth pr.last)])):=Qaj (Same.refl _) hl1
  refine ⟨D,l1,_,_,rfl,rfl,s1 _ _ hD5,Qa3,?_,fun l2 hl2=>?_⟩
  ·rw [List.length_map,sl];exact Nat.le_trans (Nat.add_le_add_right hlen 1) (by decide)
  have s2:=Qaj (o:=HO.lst (((sds pr.stmts).map fun (n:Nat)=>V.int n) ++ [.int (Vaarra.exprDepth pr.last)])) (Same.refl _) hl2
  refine ⟨l2,(sds pr.stmts ++ [Vaarra.exprDepth pr.last]).map fun (n:Nat)=>(n:Int),rfl,SqL.of ?_,by simp,fun m h1 h2=>?_⟩
  ·rw [Qa3];simp;rfl
  have em:=Qxx h1 h2
  rw [← Qlv] at em
  refine ⟨_,rfl,x,_,dx,_,rfl,s2 _ _ (s1 _ _ (sm _ _ x4)),c,T.n_Program_depth,(by show 4 < 1000;decide),?_⟩
  refine k _ ?_ fun b o e ne=>by rw [Qa6 ne];exact s2 _ _ (s1 _ _ (sm _ _ (e4 _ _ e ne)))
  rw [Qa3,em];rfl
theorem Qro {ls be la li:Addr} {sts:List Addr} {pr:Vaarra.Program} {H:Hp} {F:Addr→Hp→Prop} {E:XK} (hls:H ls = some (.lst (sts.map V.ref))) (hlen:pr.stmts.length ≤ 2049) (hst:Paired (StAt a H) sts pr.stmts) (he:EAt a.c_Node H pr.last be)
  (h:∀ H' x dx,H x = none→Same H H'→H' x = some (.ins a.c_Program dx (pf ls be la li (Vaarra.depth pr)))→F x H'):∀ x dx,H x = none→H dx = none→dx ≠ x →
  Qvf a (.ref x :: ([.ref ls, .ref be, .ref la, .ref li] ++ [])) (upd (upd H dx (.own x)) x (.ins a.c_Program dx [])) (fun v H2=>v = .non∧F x H2) E:=by
 intro x dx hx hd ne
 have k1:Same H (upd (upd H dx (.own x)) x (.ins a.c_Program dx [])):=fun b o e=>by rw [Qa6 (Qa7 e hx),Qa6 (Qa7 e hd)];exact e
 exact ⟨x,dx,ls,be,la,li,sts,pr,rfl,Qa3,k1 _ _ hls,hlen,Qav (fun _ _ h=>StAt.same k1 h) hst,he.same k1,fun H' e1 e2=>⟨rfl,h H' x dx hx (fun b o e=>e2 b o (k1 b o e) (Qa7 e hx)) e1⟩⟩
end
def Qbj {A:Type} (sub:Vaarra.Read A) (s:List Nat):Vaarra.Read A:=fun ts=>(sub ts).bind fun e=>(Vaarra.expect s e.2).bind fun u=>.ok (e.1,u.2)
theorem Qgo {A:Type} {sub:Vaarra.Read A} {s:List Nat} {ts:Vaarra.Toks} {f:Vaarra.Fault} (h:sub ts = .error f):Qbj sub s ts = .error f:=by unfold Qbj;rw [h];rfl
theorem Qhr {A:Type} {sub:Vaarra.Read A} {s:List Nat} {ts ts3:Vaarra.Toks} {e:A} {q:Nat × Vaarra.Tok} (h:sub ts = .ok (e,q :: ts3)) (hq:q.2 = .sign s):Qbj sub s ts = .ok (e,ts3):=by
 unfold Qbj
 rw [h]
 show (if q.2 = .sign s then Except.ok ((),ts3) else Vaarra.wrong (q :: ts3)).bind _ = _
 rw [if_pos hq];rfl
theorem Qgp {A:Type} {sub:Vaarra.Read A} {s:List Nat} {ts ts3:Vaarra.Toks} {e:A} {q:Nat × Vaarra.Tok} (h:sub ts = .ok (e,q :: ts3)) (hq:q.2 ≠ .sign s):Qbj sub s ts = .error ⟨3,q.1⟩:=by
 unfold Qbj
 rw [h]
 show (if q.2 = .sign s then Except.ok ((),ts3) else Vaarra.wrong (q :: ts3)).bind _ = _
 rw [if_neg hq];rfl
theorem Qgm {A:Type} {sub:Vaarra.Read A} (hs:Shr sub) (s:List Nat):Shr (Qbj sub s):=fun ts x ts' h=>by
 obtain ⟨⟨e,t1⟩,h1,h2⟩:=Qax h
 obtain ⟨⟨u,t2⟩,h3,h4⟩:=Qax h2
 cases h4
 have:=hs _ _ _ h1
 have:=(Qgk h3).1
 dsimp only at *
 omega
def Qfe (q:Nat × Vaarra.Tok) (ts:Vaarra.Toks):Except Vaarra.Fault (Vaarra.Stmt × Vaarra.Toks):=match q.2 with
 | .small x=>Vaarra.also (fun e=>{ name:=x,place:=q.1,gift:=.expr e }) (Qbj (Vaarra.level 30) [59] ts)
 | .great x=>Vaarra.also (fun f=>{ name:=x,place:=q.1,gift:=.fn f }) (Qbj (Vaarra.fn (Vaarra.level 29)) [59] ts)
 | _=>Vaarra.wrong ts
def addS (l:List Vaarra.Stmt) (p:Vaarra.Program):Vaarra.Program:={ p with stmts:=l ++ p.stmts }
theorem Qbm {i:Nat} {x:List Nat} {ts:Vaarra.Toks}:Qfe (i, .small x) ts = Vaarra.also (fun e=>{ name:=x,place:=i,gift:=.expr e }) (Qbj (Vaarra.level 30) [59] ts):=rfl
theorem Qbn {i:Nat} {x:List Nat} {ts:Vaarra.Toks}:Qfe (i, .great x) ts = Vaarra.also (fun f=>{ name:=x,place:=i,gift:=.fn f }) (Qbj (Vaarra.fn (Vaarra.level 29)) [59] ts):=rfl
theorem Qi1 {n i j:Nat} {x:List Nat} {ts:Vaarra.Toks}:Vaarra.program (n + 1) ((i, .small x) :: (j, .sign Vaarra.gives) :: ts) = (Qbj (Vaarra.level 30) [59] ts).bind fun e=>Vaarra.also (fun p=>{ p with stmts:={ name:=x,place:=i,gift:=.expr e.1 } :: p.stmts }) (Vaarra.program n e.2):=rfl
theorem Qi2 {n i j:Nat} {x:List Nat} {ts:Vaarra.Toks}:Vaarra.program (n + 1) ((i, .great x) :: (j, .sign Vaarra.gives) :: ts) = (Vaarra.fn (Vaarra.level 29) ts).bind fun f=>(Vaarra.expect [59] f.2).bind fun u=>Vaarra.also (fun p=>{ p with stmts:={ name:=x,place:=i,gift:=.fn f.1 } :: p.stmts }) (Vaarra.program n u.2):=rfl
theorem Qm6 {q:Nat × Vaarra.Tok} {ts ts':Vaarra.Toks} {s:Vaarra.Stmt} (h:Qfe q ts = .ok (s,ts')):ts'.length < ts.length:=by
 obtain ⟨i,t⟩:=q
 cases t with
 | small x =>
  obtain ⟨e,h1,_⟩:=Qbs (Qbm.symm.trans h)
  exact Qgm (Qds 30) _ _ _ _ h1
 | great x =>
  obtain ⟨e,h1,_⟩:=Qbs (Qbn.symm.trans h)
  exact Qgm (Qlr (Qds 29)) _ _ _ _ h1
 | num x=>cases h
 | mod x=>cases h
 | sign x=>cases h
 | fin=>cases h
theorem Qdp {n j:Nat} {q:Nat × Vaarra.Tok} {ts:Vaarra.Toks} (h:kc q.2 = 2 ∨ kc q.2 = 3):Vaarra.program (n + 1) (q :: (j, .sign Vaarra.gives) :: ts) = (Qfe q ts).bind fun s=>Vaarra.also (addS [s.1]) (Vaarra.program n s.2):=by
 obtain ⟨i,t⟩:=q
 rcases h with h | h
 ·obtain ⟨x,hx⟩:=Qeu.mp h
  obtain rfl:t = .small x:=hx
  rw [Qi1,Qbm]
  cases Qbj (Vaarra.level 30) [59] ts with
  | error e=>rfl
  | ok z=>rfl
 ·obtain ⟨x,hx⟩:=Qfv.mp h
  obtain rfl:t = .great x:=hx
  rw [Qi2,Qbn]
  unfold Qbj
  cases Vaarra.fn (Vaarra.level 29) ts with
  | error e=>rfl
  | ok z =>
   obtain ⟨z1,z2⟩:=z
   dsimp only [Except.bind]
   cases Vaarra.expect [59] z2 with
   | error e=>rfl
   | ok u=>rfl
theorem Qdq {n:Nat} {q:Nat × Vaarra.Tok} {ts:Vaarra.Toks} (h : ¬ ((kc q.2 = 2 ∨ kc q.2 = 3)∧Vaarra.next ts = .sign Vaarra.gives)):Vaarra.program (n + 1) (q :: ts) = (Vaarra.level 30 (q :: ts)).bind fun e=>if Vaarra.next e.2 = .fin then .ok ({ stmts:=[],last:=e.1 },e.2) else Vaarra.wrong e.2:=by
 obtain ⟨i,t⟩:=q
 unfold Vaarra.program
 have e1:Vaarra.next ((i,t) :: ts) = t:=rfl
 have e2:List.drop 1 ((i,t) :: ts) = ts:=rfl
 rw [e1,e2]
 by_cases g:Vaarra.next ts = .sign Vaarra.gives
 ·have hn : ¬ (kc t = 2 ∨ kc t = 3):=fun z=>h ⟨z,g⟩
  cases t with
  | small x=>exact absurd (Or.inl rfl) hn
  | great x=>exact absurd (Or.inr rfl) hn
  | num x=>rfl
  | mod x=>rfl
  | sign x=>rfl
  | fin=>rfl
 ·have:(Vaarra.next ts == .sign Vaarra.gives) = false:=beq_eq_false_iff_ne.mpr g
  dsimp only
  rw [this]
  cases t <;> rfl
section
variable {P : Program} {w : World} {K : PySem.W.Frag} {mg : Str → Option Value} {base : Heap} {a : Ad}
def spSt (K:PySem.W.Frag) (a:Ad):Sp:=fun vs H Q E=>∃ r tl al as os T p q j ts,vs = [.ref r]∧Rd a H r tl al as os T p∧os.length ≤ p∧Good (T.drop p)∧T.drop p = q :: (j, .sign Vaarra.gives) :: ts∧(kc q.2 = 2 ∨ kc q.2 = 3)∧Res K a (fun G s b=>StAt a G b s) (fun s=>Vaarra.giftAtoms s.gift) r tl al as os T H (Qfe q ts) Q E
theorem Qf4 (T:Txt K mg a):FnOk P w K mg base (CX1 P w) 97 a.f_qc a.fd_qc ["self"] (spSt K a):=by
 refine T.F_qc.okX Qw5 (fun vs H Q E h=>?_) (fun cdv A outer s H vs Q E hr h=>?_)
 ·obtain ⟨r,tl,al,as,os,T',p,q,j,ts,rfl,_⟩:=h
  rfl
 ·obtain ⟨r,tl,al,as,os,T',p,q,j,ts,rfl,R,hos,g,hq,hk,res⟩:=h
  have nd:=Qw5.nd
  refine ⟨_,Qa2 (Qao (i:=1) nd rfl (Or.inl rfl) (Qay (pv 0) T.cl_Reader T.m_qal (Qeh T) (hr.mono (by decide)) T.B_qal .nil Qam))
   (Qa2 (Qaw (Qb8 (pv 0) T.cl_Reader T.m_qr (Qbe T) (hr.mono (by decide)) T.B_qr .nil Qbq (Qa0 Qad Qa5)))
   (Qa2 (Qao (i:=2) nd rfl (Or.inl rfl) (Qd7 (Qac Qc1 (Qab (pv 1) (by rfl)) Qad (Qap _))
    (Qb8 (pv 0) T.cl_Reader T.m_qb (Qeq T 30) hr T.B_qb .nil Qbq (Qa0 Qai Qa5))
    (Qb8 (pv 0) T.cl_Reader T.m_qd (Qjb T 29) (hr.mono (by decide)) T.B_qd .nil Qbq (Qa0 Qai Qa5))))
   (Qa2 (Qaw (Qb8 (pv 0) T.cl_Reader T.m_qr (Qbe T) (hr.mono (by decide)) T.B_qr .nil Qbq (Qa0 Qad Qa5)))
   (Qa4 (Qae (Qca T.mk_Statement (Qxr T) (hr.mono (by decide)) rfl T.g_Statement T.B_qab .nil Qam (Qa0 (Qab (pv 1) (by rfl)) (Qa0 (pv 2) Qa5)))))))),?_⟩
  obtain ⟨d0,hr0⟩:=R.ob
  obtain ⟨t1,e1⟩:=Qan hq
  refine ⟨_,rfl,r,d0,_,rfl,hr0,rfl,r,tl,al,as,os,T',p,q,_,rfl,R,hq,fun H1 y x k1 R1 tk=>?_⟩
  obtain ⟨d1,hr1⟩:=R1.ob
  have ng:q.2 ≠ .fin:=fun z=>by rw [z] at hk;rcases hk with h | h <;> cases h
  have g1:Good (T'.drop (p + 1)):=by rw [e1];rw [hq] at g;exact g.tail ng
  have e2:T'.drop (p + 2) = ts:=(Qan e1).2
  have g2:Good (T'.drop (p + 2)):=by rw [e2];rw [e1] at g1;exact g1.tail (by intro h;cases h)
  refine ⟨_,rfl,r,d1,_,rfl,hr1,rfl,r,tl,al,as,os,T',p + 1,_,_,11,rfl,by decide,by decide,R1,e1,fun wf1 _ H2 y2 x2 k2 R2 tk2=>?_,fun _ ne=>absurd rfl ne⟩
  obtain ⟨d2,hr2⟩:=R2.ob
  have tkk:TkAt a H2 y q x:=tk.kept R1 k2
  have k02:=k1.trans k2
  obtain ⟨⟨dy,hy⟩,hx⟩:=id tkk
  refine ⟨_,rfl,y,_,dy,_,_,rfl,hy,T.cl_Token,T.n_Token_kind,rfl,rfl,_,rfl,?_⟩
  rw [show decide (V.str (Qet q.2) = V.str ("name" : Str)) = decide (kc q.2 = 2) from Qf8 tkk.wf (j:=2) (by decide) (by decide)]
  obtain ⟨i,t⟩:=q
  by_cases h2:kc t = 2
  ·rw [decide_eq_true h2]
   obtain ⟨nm,hn⟩:=Qeu.mp h2
   obtain rfl:t = .small nm:=hn
   obtain rfl:x = nm:=hx.1
   refine iteT ⟨_,rfl,r,d2,_,rfl,hr2,rfl,r,tl,al,as,os,T',p + 2,(by rfl),R2,(by omega),g2,?_⟩
   rw [e2]
   unfold Res
   cases lv:Vaarra.level 30 ts with
   | error f=>exact res.err (by rw [Qbm,Qgo lv];rfl)
   | ok z =>
    obtain ⟨ex,ts3⟩:=z
    intro H3 y3 p3 hp3 g3 k3 R3 b3 ea
    obtain ⟨q3,ts4,hq3⟩:=g3.cons
    obtain ⟨d3,hr3⟩:=R3.ob
    have lv':Vaarra.level 30 ts = .ok (ex,q3 :: ts4):=by rw [lv];congr 2;rw [← hq3];exact hp3.symm
    have e3:T'.drop (p3 + 1) = ts4:=(Qan hq3).2
    refine ⟨_,rfl,r,d3,_,rfl,hr3,rfl,r,tl,al,as,_,T',p3,q3,ts4,10,rfl,by decide,by decide,R3,hq3,fun wf3 e4 H4 y4 x4 k4 R4 tk4=>?_,fun wf3 e4=>?_⟩
    ·have hs:=(Qau wf3 [59] (by decide) (by decide) 10 rfl).mp e4
     obtain ⟨d4,hr4⟩:=R4.ob
     obtain ⟨⟨dz,hz⟩,_⟩:=(tkk.kept R2 k3).kept R3 k4
     refine ⟨_,rfl,y,_,dz,_,_,rfl,hz,T.cl_Token,T.n_Token_spelling,rfl,_,rfl,?_⟩
     show ∀ (x dx:Addr),H4 x = none→H4 dx = none→dx ≠ x→_
     refine Qll (E:=E0) fun H5 z dz nz sm ho=>?_
     have kk:=(k02.trans k3).trans k4
     refine res.ok (v:=⟨x,i, .expr ex⟩) (ts:=ts4) (by rw [Qbm,Qhr lv' hs];rfl) H5 z (p3 + 1) e3 ?_ (kk.trans (Same.kept sm)) (R4.same sm) (Nat.le_succ_of_le b3) ⟨dz,y3,New.at (kk.free' R4 nz) ho,?_⟩
     ·rw [e3];rw [hq3] at g3;exact g3.tail (by rw [hs];intro h;cases h)
     ·exact EAt.same (New.wide k02 (k4.trans (Same.kept sm)) R2) ea
    ·exact res.err (f:=⟨3,q3.1⟩) (by rw [Qbm,Qgp lv' fun h=>e4 ((Qau wf3 [59] (by decide) (by decide) 10 rfl).mpr h)];rfl)
  ·rw [decide_eq_false h2]
   obtain ⟨nm,hn⟩:=Qfv.mp (hk.resolve_left h2)
   obtain rfl:t = .great nm:=hn
   obtain rfl:x = nm:=hx.1
   refine iteF ⟨_,rfl,r,d2,_,rfl,hr2,rfl,r,tl,al,as,os,T',p + 2,(by rfl),R2,(by omega),g2,?_⟩
   rw [e2]
   unfold Res
   cases lv:Vaarra.fn (Vaarra.level 29) ts with
   | error f=>exact res.err (by rw [Qbn,Qgo lv];rfl)
   | ok z =>
    obtain ⟨ex,ts3⟩:=z
    intro H3 y3 p3 hp3 g3 k3 R3 b3 ea
    obtain ⟨q3,ts4,hq3⟩:=g3.cons
    obtain ⟨d3,hr3⟩:=R3.ob
    have lv':Vaarra.fn (Vaarra.level 29) ts = .ok (ex,q3 :: ts4):=by rw [lv];congr 2;rw [← hq3];exact hp3.symm
    have e3:T'.drop (p3 + 1) = ts4:=(Qan hq3).2
    refine ⟨_,rfl,r,d3,_,rfl,hr3,rfl,r,tl,al,as,_,T',p3,q3,ts4,10,rfl,by decide,by decide,R3,hq3,fun wf3 e4 H4 y4 x4 k4 R4 tk4=>?_,fun wf3 e4=>?_⟩
    ·have hs:=(Qau wf3 [59] (by decide) (by decide) 10 rfl).mp e4
     obtain ⟨d4,hr4⟩:=R4.ob
     obtain ⟨⟨dz,hz⟩,_⟩:=(tkk.kept R2 k3).kept R3 k4
     refine ⟨_,rfl,y,_,dz,_,_,rfl,hz,T.cl_Token,T.n_Token_spelling,rfl,_,rfl,?_⟩
     show ∀ (x dx:Addr),H4 x = none→H4 dx = none→dx ≠ x→_
     refine Qll (E:=E0) fun H5 z dz nz sm ho=>?_
     have kk:=(k02.trans k3).trans k4
     refine res.ok (v:=⟨x,i, .fn ex⟩) (ts:=ts4) (by rw [Qbn,Qhr lv' hs];rfl) H5 z (p3 + 1) e3 ?_ (kk.trans (Same.kept sm)) (R4.same sm) (Nat.le_succ_of_le b3) ⟨dz,y3,New.at (kk.free' R4 nz) ho,?_⟩
     ·rw [e3];rw [hq3] at g3;exact g3.tail (by rw [hs];intro h;cases h)
     ·exact FAt.same (New.wide k02 (k4.trans (Same.kept sm)) R2) ea
    ·exact res.err (f:=⟨3,q3.1⟩) (by rw [Qbn,Qgp lv' fun h=>e4 ((Qau wf3 [59] (by decide) (by decide) 10 rfl).mpr h)];rfl)
end
theorem Qqo {A B C:Type} (f:B→C) (g:A→B) (r:Except Vaarra.Fault (A × Vaarra.Toks)):Vaarra.also f (Vaarra.also g r) = Vaarra.also (fun x=>f (g x)) r:=by
 cases r with
 | error e=>rfl
 | ok z=>rfl
theorem Qqp (l:List Vaarra.Stmt) (s:Vaarra.Stmt) (r:Except Vaarra.Fault (Vaarra.Program × Vaarra.Toks)):Vaarra.also (addS l) (Vaarra.also (addS [s]) r) = Vaarra.also (addS (l ++ [s])) r:=by
 rw [Qqo]
 congr 1
 funext p
 unfold addS
 simp
theorem Qsf (r:Except Vaarra.Fault (Vaarra.Program × Vaarra.Toks)):Vaarra.also (addS []) r = r:=by
 cases r with
 | error e=>rfl
 | ok z=>rfl
section
variable {P : Program} {w : World} {K : PySem.W.Frag} {mg : Str → Option Value} {base : Heap} {a : Ad}
theorem Qtp (T:Txt K mg a) {σ : L2.St} {H:Hp} {F:Bool→Hp→Prop} {r tl al:Addr} {as:List Addr} {os:List Nat} {T':Vaarra.Toks} {p:Nat} {q:Nat × Vaarra.Tok} {ts:Vaarra.Toks} {E:XK} (hσ : σ[0]? = some (some (.ref r))) (R:Rd a H r tl al as os T' p) (g:Good (T'.drop p)) (hq:T'.drop p = q :: ts)
  (h:F (decide ((kc q.2 = 2 ∨ kc q.2 = 3)∧Vaarra.next ts = .sign Vaarra.gives)) H) :
  tAnd (Qg0 (tOp (rIn K false) (Qm5 a.c_Reader "kind_here" (Ql8 a) [] E (tVar 0) tNil) (tC (.ref a.p_GIVEN_KINDS)))) (Qg0 (tOp rEq (tFld K (tOp (rIxL K) (tFld K (tVar 0) "tokens") (tOp (rI0 fun i j=>.int (i + j)) (tFld K (tVar 0) "place") (tC (.int 1)))) "kind") (tC (.str ":=")))) σ H F:=by
 obtain ⟨dx,hr⟩:=R.ob
 refine Qk8 (K:=K) (L:=[[110,97,109,101],[119,111,114,100]]) hσ R hq (T.q_GIVEN_KINDS _) Qrs ?_
 rw [if_neg Bool.false_ne_true]
 by_cases hk:kc q.2 = 2 ∨ kc q.2 = 3
 ·have e:(kc q.2 == 2 || kc q.2 == 3) = true:=by rw [Bool.or_eq_true,beq_iff_eq,beq_iff_eq];exact hk
  rw [e]
  have ng:q.2 ≠ .fin:=fun z=>by rw [z] at hk;rcases hk with h | h <;> cases h
  have e1:T'.drop (p + 1) = ts:=(Qan hq).2
  have g1:Good ts:=by rw [hq] at g;exact g.tail ng
  obtain ⟨q1,ts1,hq1⟩:=g1.cons
  rw [hq1] at e1
  obtain ⟨y,x,h1,⟨dy,h2⟩,h3⟩:=R.tok (Qan e1).1
  refine iteT ⟨_,hσ,r,_,dx,_,_,rfl,hr,T.cl_Reader,T.n_Reader_tokens,rfl,_,hσ,r,_,dx,_,_,rfl,hr,T.cl_Reader,T.n_Reader_place,rfl,_,_,rfl,rfl,?_⟩
  refine ⟨tl,_,_,_,rfl,rfl,SqL.of R.ls,(show atI (as.map V.ref) ((p:Int) + 1) = some (V.ref y) by rw [show (p:Int) + 1 = ((p + 1:Nat):Int) by omega];exact Qcq h1),y,_,dy,_,_,rfl,h2,T.cl_Token,T.n_Token_kind,rfl,rfl,_,rfl,?_⟩
  have wf:Wf q1.2:=⟨x,h3⟩
  rw [show decide (V.str (Qet q1.2) = V.str (":=" : Str)) = decide (kc q1.2 = 11) from Qf8 wf (j:=11) (by decide) (by decide)]
  have:decide (kc q1.2 = 11) = decide ((kc q.2 = 2 ∨ kc q.2 = 3)∧Vaarra.next ts = .sign Vaarra.gives):=by
   refine decide_eq_decide.mpr ⟨fun z=>⟨hk,?_⟩,fun z=>?_⟩
   ·rw [hq1];exact (Qau wf [58,61] (by decide) (by decide) 11 rfl).mp z
   ·rw [hq1] at z;exact (Qau wf [58,61] (by decide) (by decide) 11 rfl).mpr z.2
  rw [this];exact h
 ·have e:(kc q.2 == 2 || kc q.2 == 3) = false:=by rw [← Bool.not_eq_true,Bool.or_eq_true,beq_iff_eq,beq_iff_eq];exact hk
  rw [e]
  refine iteF ?_
  rw [decide_eq_false (fun z=>hk z.1)] at h;exact h
def Qlm (ts:Vaarra.Toks):Except Vaarra.Fault (Vaarra.Program × Vaarra.Toks):=(Vaarra.level 30 ts).bind fun e=>if Vaarra.next e.2 = .fin then .ok ({ stmts:=[],last:=e.1 },e.2) else Vaarra.wrong e.2
def sA (l:List Vaarra.Stmt):List Nat:=l.flatMap fun s=>Vaarra.giftAtoms s.gift
theorem Qop (l:List Vaarra.Stmt) (s:Vaarra.Stmt):sA (l ++ [s]) = sA l ++ Vaarra.giftAtoms s.gift:=by unfold sA;rw [List.flatMap_append];simp
def spSts (K:PySem.W.Frag) (a:Ad):Sp:=fun vs H Q E=>∃ r tl al as os T p,vs = [.ref r]∧Rd a H r tl al as os T p∧os.length ≤ p∧Good (T.drop p) ∧
 (∀ f,Vaarra.program ((T.drop p).length + 1) (T.drop p) = .error f→∀ cls d H',EW K a.c_Refused f.kind f.place cls d H'→E cls d H') ∧
 ∀ H' W sts l p',Vaarra.program ((T.drop p).length + 1) (T.drop p) = Vaarra.also (addS l) (Qlm (T.drop p'))→Good (T.drop p')→Kept r al H H'→Rd a H' r tl al as (os ++ sA l) T p'→(os ++ sA l).length ≤ p'→l.length ≤ 2049→New H H' W = some (.lst (sts.map V.ref))→Paired (StAt a (New H H')) sts l→Q (.ref W) H'
theorem Qep (T:Txt K mg a):FnOk P w K mg base (CX1 P w) 98 a.f_qa a.fd_qa ["self"] (spSts K a):=by
 refine T.F_qa.okX Qwq (fun vs H Q E h=>?_) (fun cdv A outer s H vs Q E hr h=>?_)
 ·obtain ⟨r,tl,al,as,os,T',p,rfl,_⟩:=h
  rfl
 ·obtain ⟨r,tl,al,as,os,T',p,rfl,R,hos,g,rer,rok⟩:=h
  have nd:=Qwq.nd
  refine ⟨_,Qa2 (Qao (i:=1) nd rfl (Or.inl rfl) (Qc0 Qa5))
   (Qa2 (Qd5 own1 (pw_and (Qac Qbh (Qay (pv 0) T.cl_Reader T.m_qt (Qb4 T) (hr.mono (by decide)) T.B_qt .nil Qam) (Qbp (v:=.ref a.p_GIVEN_KINDS) (by rfl) T.g_GIVEN_KINDS rfl) (by with_unfolding_all rfl))
     (pw_and1 (Qac Qc1 (Qab (Qcd Qbw (Qab (pv 0) (by rfl)) (Qbl Qd0 (Qab (pv 0) (by rfl)) Qai) (fun _ _=>rfl)) (by rfl)) Qad (Qap _)))).pt
    (Qa4 (Qaw (Qj1 PySem.F.plainAttrs_list PySem.F.slot_list_append PySem.F.type_list_append Qcn (pv 1) (Qa0 (Qay (pv 0) T.cl_Reader T.m_qc (Qf4 T) hr T.B_qc .nil Qbq) Qa5)))))
   (Qa4 (Qae (pv 1)))),?_⟩
  obtain ⟨dx,hr'⟩:=R.ob
  refine ⟨Nat.zero_le _,fun W hW=>?_⟩
  have ner:Far r al W:=R.far hW
  refine ⟨fun t σ H'=>∃ (p' n:Nat) (sts:List Addr) (l:List Vaarra.Stmt),t = (T'.drop p').length∧σ = [some (.ref r),some (.ref W)]∧Kept r al H H'∧Rd a H' r tl al as (os ++ sA l) T' p'∧(os ++ sA l).length ≤ p'∧Good (T'.drop p')∧H' W = some (.lst (sts.map V.ref)) ∧
    Paired (StAt a (But H H' W)) sts l∧l.length + (T'.drop p').length ≤ T'.length∧(T'.drop p').length < n∧Vaarra.program ((T'.drop p).length + 1) (T'.drop p) = Vaarra.also (addS l) (Vaarra.program n (T'.drop p')),
   ⟨_,p,(T'.drop p).length + 1,[],[],rfl,rfl,(Kept.refl r al H).upd hW,(R.upd (Kept.refl r al H) R hW).os (List.append_nil _).symm,(by show (os ++ []).length ≤ p;rw [List.append_nil];exact hos),g,Qa3, .nil,by rw [List.length_drop];show 0 + _ ≤ _;omega,Nat.lt_succ_self _,by rw [Qsf]⟩,?_⟩
  rintro t σ H' ⟨p',n,sts,l,rfl,rfl,kp,R',b',g',hW',hp,sz,hn,e⟩
  obtain ⟨n,rfl⟩ : ∃ n',n = n' + 1:=⟨n - 1,by omega⟩
  obtain ⟨q,ts,hq⟩:=g'.cons
  obtain ⟨d1,hr1⟩:=R'.ob
  have e1:T'.drop (p' + 1) = ts:=(Qan hq).2
  have lsz:=R.sz
  refine Qtp T rfl R' g' hq ?_
  by_cases hg:(kc q.2 = 2 ∨ kc q.2 = 3)∧Vaarra.next ts = .sign Vaarra.gives
  ·rw [decide_eq_true hg]
   refine iteT ⟨fun σ' H2=>∃ m',m' < (T'.drop p').length∧_,fun _ _ h=>h,?_⟩
   have ng:q.2 ≠ .fin:=fun z=>by rw [z] at hg;rcases hg.1 with h | h <;> cases h
   have g1:Good ts:=by rw [hq] at g';exact g'.tail ng
   obtain ⟨⟨j,q1⟩,ts1,hq1⟩:=g1.cons
   obtain rfl:q1 = .sign Vaarra.gives:=by have:=hg.2;rw [hq1] at this;exact this
   rw [hq1] at hq
   refine ⟨_,rfl, .inl ⟨rfl,_,SqL.of hW'⟩,_,rfl,r,d1,_,rfl,hr1,rfl,r,tl,al,as,_,T',p',q,j,ts1,rfl,R',b',g',hq,hg.1,?_⟩
   rw [hq,Qdp hg.1] at e
   unfold Res
   cases lv:Qfe q ts1 with
   | error f=>exact rer f (by rw [e,lv];rfl)
   | ok z =>
    obtain ⟨st,ts2⟩:=z
    intro H2 y2 p2 hp2 g2 k2 R2 b2 sa
    replace hp2:T'.drop p2 = ts2:=hp2
    have len2:=Qm6 lv
    have len1:(T'.drop p').length = ts1.length + 2:=by rw [hq];rfl
    obtain ⟨d3,hr3⟩:=R2.ob
    have hW2:H2 W = some (.lst (sts.map V.ref)):=k2 _ _ hW' ner
    refine ⟨W,_,_,rfl,rfl,hW2,?_,?_⟩
    ·rw [List.length_map,Qbi hp];exact Nat.lt_of_le_of_lt (show l.length ≤ 2049 by omega) (by decide)
    have kk:=kp.trans k2
    have l2:(T'.drop p2).length = ts2.length:=by rw [hp2]
    refine ⟨_,(by omega:(T'.drop p2).length < (T'.drop p').length),p2,n,sts ++ [y2],l ++ [st],rfl,rfl,kk.upd hW,R.upd kk (R2.os (by rw [Qop,List.append_assoc])) hW,(by rw [Qop,← List.append_assoc];exact b2),g2,?_,?_,?_,by omega,?_⟩
    ·rw [Qa3,List.map_append];rfl
    ·refine Qef (Qav (fun _ _ h=>StAt.same But.upd (StAt.same (But.kept R k2) h)) hp) (StAt.same But.upd (StAt.same (But.new R' kp hW') sa))
    ·rw [List.length_append,List.length_singleton];omega
    ·rw [e,lv,← Qqp,hp2];rfl
  ·rw [decide_eq_false hg]
   rw [hq,Qdq hg,← hq] at e
   have mono:Same (But H H' W) (New H H'):=fun b o h=>by
    obtain ⟨_,h2,h3⟩:=But.get h
    exact New.at h2 h3
   exact iteF ⟨_,rfl,rok H' W sts l p' e g' kp R' b' (by omega) (New.at hW hW') (Qav (fun _ _ h=>StAt.same mono h) hp)⟩
def Qvn (K:PySem.W.Frag) (a:Ad):Sp:=fun vs H Q E=>∃ r tl al as os T p,vs = [.ref r]∧Rd a H r tl al as os T p∧os.length ≤ p∧Good (T.drop p) ∧
 (∀ f,Qlm (T.drop p) = .error f→∀ cls d H',EW K a.c_Refused f.kind f.place cls d H'→E cls d H') ∧
 ∀ ex ts',Qlm (T.drop p) = .ok ({ stmts:=[],last:=ex },ts')→∀ H' y p',Kept r al H H'→Rd a H' r tl al as (os ++ Vaarra.exprAtoms ex) T p'→EAt a.c_Node (New H H') ex y→Q (.ref y) H'
theorem Qj9 (T:Txt K mg a):FnOk P w K mg base (CX1 P w) 97 a.f_qp a.fd_qp ["self"] (Qvn K a):=by
 refine T.F_qp.okX Qvx (fun vs H Q E h=>?_) (fun cdv A outer s H vs Q E hr h=>?_)
 ·obtain ⟨r,tl,al,as,os,T',p,rfl,_⟩:=h
  rfl
 ·obtain ⟨r,tl,al,as,os,T',p,rfl,R,hos,g,rer,rok⟩:=h
  have nd:=Qvx.nd
  refine ⟨_,Qa2 (Qao (i:=1) nd rfl (Or.inl rfl) (Qb8 (pv 0) T.cl_Reader T.m_qb (Qeq T 30) (hr.mono (by decide)) T.B_qb .nil Qbq (Qa0 Qai Qa5)))
   (Qa2 (Qaw (Qb8 (pv 0) T.cl_Reader T.m_qr (Qbe T) (hr.mono (by decide)) T.B_qr .nil Qbq (Qa0 Qad Qa5)))
   (Qa4 (Qae (pv 1)))),?_⟩
  obtain ⟨dx,hr'⟩:=R.ob
  refine ⟨_,rfl,r,dx,_,rfl,hr',rfl,r,tl,al,as,os,T',p,(by rfl),R,hos,g,?_⟩
  unfold Res
  unfold Qlm at rer rok
  cases lv:Vaarra.level 30 (T'.drop p) with
  | error f=>exact rer f (by rw [lv];rfl)
  | ok z =>
   obtain ⟨ex,ts1⟩:=z
   intro H1 y1 p1 hp1 g1 k1 R1 b1 ea
   replace hp1:T'.drop p1 = ts1:=hp1
   obtain ⟨q1,ts2,hq1⟩:=g1.cons
   obtain ⟨d2,hr2⟩:=R1.ob
   have nx1:Vaarra.next ts1 = q1.2:=by rw [← hp1,hq1];rfl
   have hr1':Vaarra.here ts1 = q1.1:=by rw [← hp1,hq1];rfl
   rw [lv] at rer rok
   replace rer:∀ f,(if Vaarra.next ts1 = .fin then Except.ok (({ stmts:=[],last:=ex }:Vaarra.Program),ts1) else Vaarra.wrong ts1) = .error f→∀ cls d H',EW K a.c_Refused f.kind f.place cls d H'→E cls d H':=rer
   replace rok:∀ ex' ts',(if Vaarra.next ts1 = .fin then Except.ok (({ stmts:=[],last:=ex }:Vaarra.Program),ts1) else Vaarra.wrong ts1) = .ok (({ stmts:=[],last:=ex' }:Vaarra.Program),ts')→∀ H' y p',Kept r al H H'→Rd a H' r tl al as (os ++ Vaarra.exprAtoms ex') T' p'→EAt a.c_Node (New H H') ex' y→Q (.ref y) H':=rok
   rw [nx1] at rer rok
   refine ⟨_,rfl,r,d2,_,rfl,hr2,rfl,r,tl,al,as,_,T',p1,q1,ts2,12,rfl,by decide,by decide,R1,hq1,fun wf e4 H2 y2 x2 k2 R2 tk2=>?_,fun wf e4=>?_⟩
   ·rw [if_pos (Qtf.mp e4)] at rok
    exact ⟨_,rfl,rok ex ts1 rfl H2 y1 (p1 + 1) (k1.trans k2) R2 (ea.same (New.wide (Kept.refl r al H) k2 R))⟩
   ·rw [if_neg (fun h=>e4 (Qtf.mpr h))] at rer
    exact rer ⟨3,q1.1⟩ (by unfold Vaarra.wrong;rw [hr1'])
end
def Qb0:Int→Vaarra.Toks→List Vaarra.Mention
 | _,[]=>[]
 | d,(_, .sign s) :: r=>Qb0 (if s = [123] then d + 1 else if s = [125] then d - 1 else d) r
 | d,(i, .small x) :: r=>{ great:=false,name:=x,place:=i,inBody:=decide (0 < d) } :: Qb0 d r
 | d,(i, .great x) :: r=>if Vaarra.words.contains x then Qb0 d r else { great:=true,name:=x,place:=i,inBody:=decide (0 < d) } :: Qb0 d r
 | d,(_, .num _) :: r=>Qb0 d r
 | d,(_, .mod _) :: r=>Qb0 d r
 | d,(_, .fin) :: r=>Qb0 d r
structure Qas (seg:Vaarra.Toks) (m:Bool→List Vaarra.Mention):Prop where
 semi:∀ q ∈ seg,q.2 ≠ .sign [59]∧q.2 ≠ .fin
 men:∀ (d:Int) (rest:Vaarra.Toks),0 ≤ d→Qb0 d (seg ++ rest) = m (decide (0 < d)) ++ Qb0 d rest
def Prs {A:Type} (rd:Vaarra.Read A) (mf:Bool→A→List Vaarra.Mention):Prop:=∀ ts x ts',rd ts = .ok (x,ts')→∃ seg,ts = seg ++ ts'∧Qas seg fun b=>mf b x
theorem Qas.app {s t:Vaarra.Toks} {m n:Bool→List Vaarra.Mention} (h1:Qas s m) (h2:Qas t n):Qas (s ++ t) fun b=>m b ++ n b :=
 ⟨fun q hq=>(List.mem_append.mp hq).elim (h1.semi q) (h2.semi q),fun d rest h=>by rw [List.append_assoc,h1.men d _ h,h2.men d _ h,List.append_assoc]⟩
theorem Qd8 {q0:Nat × Vaarra.Tok} (h:q0.2 ≠ .sign [59]∧q0.2 ≠ .fin):∀ q ∈ [q0],q.2 ≠ .sign [59]∧q.2 ≠ .fin:=fun q hq=>by rw [List.mem_singleton.mp hq];exact h
theorem Qas.none:Qas [] fun _=>[]:=⟨fun q hq=>(by cases hq),fun d rest _=>rfl⟩
theorem Qf3 {i:Nat} {n:Int}:Qas [(i, .num n)] fun _=>[]:=⟨Qd8 ⟨(by intro h;cases h),(by intro h;cases h)⟩,fun d rest _=>rfl⟩
theorem Qhc {i:Nat} {n:List Nat}:Qas [(i, .mod n)] fun _=>[]:=⟨Qd8 ⟨(by intro h;cases h),(by intro h;cases h)⟩,fun d rest _=>rfl⟩
theorem Qee {i:Nat} {s:List Nat} (h1:s ≠ [59]) (h2:s ≠ [123]) (h3:s ≠ [125]):Qas [(i, .sign s)] fun _=>[] :=
 ⟨Qd8 ⟨fun h=>h1 (Vaarra.Tok.sign.inj h),(by intro h;cases h)⟩,fun d rest _=>by show Qb0 (if s = [123] then d + 1 else if s = [125] then d - 1 else d) rest = _;rw [if_neg h2,if_neg h3];rfl⟩
theorem Qj3 {i:Nat} {x:List Nat}:Qas [(i, .small x)] fun b=>[{ great:=false,name:=x,place:=i,inBody:=b }]:=⟨Qd8 ⟨(by intro h;cases h),(by intro h;cases h)⟩,fun d rest _=>rfl⟩
theorem Qkf {i:Nat} {x:List Nat} (h:Vaarra.words.contains x = true):Qas [(i, .great x)] fun _=>[] :=
 ⟨Qd8 ⟨(by intro h;cases h),(by intro h;cases h)⟩,fun d rest _=>by show (if Vaarra.words.contains x = true then Qb0 d rest else _) = _;rw [if_pos h];rfl⟩
theorem Qj4 {i:Nat} {x:List Nat} (h : ¬ Vaarra.words.contains x = true):Qas [(i, .great x)] fun b=>[{ great:=true,name:=x,place:=i,inBody:=b }] :=
 ⟨Qd8 ⟨(by intro h;cases h),(by intro h;cases h)⟩,fun d rest _=>by show (if Vaarra.words.contains x = true then Qb0 d rest else _) = _;rw [if_neg h];rfl⟩
theorem Qkg {i j:Nat} {s:Vaarra.Toks} {m:Bool→List Vaarra.Mention} (h:Qas s m):Qas ((i, .sign [123]) :: s ++ [(j, .sign [125])]) fun _=>m true:=by
 refine ⟨fun q hq=>?_,fun d rest hd=>?_⟩
 ·rw [List.cons_append] at hq
  rcases List.mem_cons.mp hq with rfl | hq
  ·exact ⟨fun h=>absurd (Vaarra.Tok.sign.inj h) (by decide),(by intro h;cases h)⟩
  ·rcases List.mem_append.mp hq with hq | hq
   ·exact h.semi q hq
   ·exact Qd8 ⟨fun h=>absurd (Vaarra.Tok.sign.inj h) (by decide),(by intro h;cases h)⟩ q hq
 ·show Qb0 (if ([123]:List Nat) = [123] then d + 1 else _) ((s ++ [(j, .sign [125])]) ++ rest) = _
  rw [if_pos rfl,List.append_assoc,h.men (d + 1) _ (by omega),decide_eq_true (show 0 < d + 1 by omega)]
  show m true ++ Qb0 (if ([125]:List Nat) = [123] then d + 1 + 1 else if ([125]:List Nat) = [125] then d + 1 - 1 else d + 1) rest = _
  rw [if_neg (by decide),if_pos rfl,show d + 1 - 1 = d by omega]
theorem Qfa {s:List Nat} {ts ts':Vaarra.Toks} {u:Unit} (h:Vaarra.expect s ts = .ok (u,ts')):∃ i,ts = (i, .sign s) :: ts':=by
 obtain ⟨_,h2,h3⟩:=Qgk h
 cases ts with
 | nil=>cases h3
 | cons q r =>
  obtain ⟨i,t⟩:=q
  obtain rfl:t = .sign s:=h3
  exact ⟨i,by rw [h2];rfl⟩
theorem Qho {sub:Vaarra.Read Vaarra.Expr} {s:List Nat} {ts ts':Vaarra.Toks} {x:Vaarra.Expr} (hs:Prs sub Vaarra.exprMentions) (h:Vaarra.closed sub s ts = .ok (x,ts')):∃ seg i,ts = seg ++ (i, .sign s) :: ts'∧Qas seg fun b=>Vaarra.exprMentions b x:=by
 obtain ⟨⟨e,t1⟩,h1,h2⟩:=Qax h
 obtain ⟨⟨u,t2⟩,h3,h4⟩:=Qax h2
 cases h4
 obtain ⟨seg,e1,p1⟩:=hs _ _ _ h1
 obtain ⟨i,e2⟩:=Qfa h3
 exact ⟨seg,i,by rw [e1];congr 1,p1⟩
theorem Qlf:∀ ts:Vaarra.Toks,∃ seg,ts = seg ++ (Vaarra.numsOf ts).2∧Qas seg fun _=>[]
 | []=>⟨[],rfl,Qas.none⟩
 | q :: r=>by
  by_cases h:kc q.2 = 1
  ·obtain ⟨n,hn⟩:=Qgi.mp h
   obtain ⟨i,t⟩:=q
   obtain rfl:t = .num n:=hn
   obtain ⟨seg,e,p⟩:=Qlf r
   refine ⟨(i, .num n) :: seg,?_,?_⟩
   ·rw [Qe1];show (i,Vaarra.Tok.num n) :: r = _;rw [List.cons_append,← e]
   ·have:=Qas.app (Qf3 (i:=i) (n:=n)) p
    exact this
  ·rw [Qfu h];exact ⟨[],rfl,Qas.none⟩
theorem Qkh {sub:Vaarra.Read Vaarra.Expr} (hs:Prs sub Vaarra.exprMentions):Prs (Vaarra.operand sub) Vaarra.exprMentions:=fun ts x ts' h=>by
 cases ts with
 | nil=>cases h
 | cons q r =>
  obtain ⟨i,t⟩:=q
  cases t with
  | num n =>
   have h:Except.ok (Vaarra.Expr.nums (n :: (Vaarra.numsOf r).1),(Vaarra.numsOf r).2) = Except.ok (x,ts'):=h
   cases h
   obtain ⟨seg,e,p⟩:=Qlf r
   refine ⟨(i, .num n) :: seg,?_,?_⟩
   ·rw [List.cons_append,← e]
   ·have:=Qas.app (Qf3 (i:=i) (n:=n)) p
    exact this
  | small s=>cases h;exact ⟨[(i, .small s)],rfl,Qj3⟩
  | sign s =>
   replace h:(if s = [40] then Vaarra.closed sub [41] r else Vaarra.wrong ((i, .sign s) :: r)) = .ok (x,ts'):=h
   by_cases q:s = [40]
   ·rw [if_pos q] at h
    subst q
    obtain ⟨seg,j,e,p⟩:=Qho hs h
    refine ⟨[(i, .sign [40])] ++ (seg ++ [(j, .sign [41])]),?_,?_⟩
    ·rw [e];simp
    ·have:=Qas.app (Qee (i:=i) (s:=[40]) (by decide) (by decide) (by decide)) (Qas.app p (Qee (i:=j) (s:=[41]) (by decide) (by decide) (by decide)))
     simpa using this
   ·rw [if_neg q] at h;cases h
  | great s=>cases h
  | mod s=>cases h
  | fin=>cases h
theorem Qs0 {s:List Nat} (h:Vaarra.funSigns.contains s = true):s ≠ [59]∧s ≠ [123]∧s ≠ [125]:=by
 refine ⟨?_,?_,?_⟩ <;> (rintro rfl;revert h;decide)
theorem Qsc {sub:Vaarra.Read Vaarra.Expr} (hs:Prs sub Vaarra.exprMentions):Prs (Vaarra.atom sub) Vaarra.funMentions:=fun ts x ts' h=>by
 cases ts with
 | nil=>cases h
 | cons q r =>
  obtain ⟨i,t⟩:=q
  cases t with
  | great s =>
   have h:Except.ok (if Vaarra.words.contains s = true then Vaarra.Fun.prim s i else .given s i,r) = Except.ok (x,ts'):=h
   cases h
   refine ⟨[(i, .great s)],rfl,?_⟩
   by_cases hw:Vaarra.words.contains s = true
   ·rw [if_pos hw];exact Qkf hw
   ·rw [if_neg hw];exact Qj4 hw
  | sign s =>
   replace h:(if Vaarra.funSigns.contains s then Except.ok (Vaarra.Fun.prim s i,r) else if s = [123] then Vaarra.also (fun e=>.body e i) (Vaarra.closed sub [125] r) else Vaarra.wrong ((i, .sign s) :: r)) = .ok (x,ts'):=h
   by_cases q:Vaarra.funSigns.contains s = true
   ·rw [if_pos q] at h
    cases h
    obtain ⟨h1,h2,h3⟩:=Qs0 q
    exact ⟨[(i, .sign s)],rfl,Qee h1 h2 h3⟩
   ·rw [if_neg q] at h
    by_cases q:s = [123]
    ·rw [if_pos q] at h
     subst q
     obtain ⟨e,h1,rfl⟩:=Qbs h
     obtain ⟨seg,j,e1,p⟩:=Qho hs h1
     exact ⟨(i, .sign [123]) :: seg ++ [(j, .sign [125])],by rw [e1];simp,Qkg p⟩
    ·rw [if_neg q] at h;cases h
  | num s=>cases h
  | small s=>cases h
  | mod s=>cases h
  | fin=>cases h
theorem Qi6:∀ (n:Nat) (f:Vaarra.Fun) (ts:Vaarra.Toks) (x:Vaarra.Fun) (ts':Vaarra.Toks),Vaarra.mods n f ts = .ok (x,ts')→∃ seg,ts = seg ++ ts'∧Qas seg (fun _=>[])∧∀ b,Vaarra.funMentions b x = Vaarra.funMentions b f
 | 0,_,_,_,_,h=>by cases h
 | n + 1,f,ts,x,ts',h=>by
  cases ts with
  | nil=>cases h;exact ⟨[],rfl,Qas.none,fun _=>rfl⟩
  | cons q r =>
   by_cases h4:kc q.2 = 4
   ·obtain ⟨s,hs⟩:=Qpm.mp h4
    obtain ⟨i,t⟩:=q
    obtain rfl:t = .mod s:=hs
    have one:∀ M,Vaarra.mods n (.mod M f) r = .ok (x,ts')→∃ seg,(i,Vaarra.Tok.mod s) :: r = seg ++ ts'∧Qas seg (fun _=>[])∧∀ b,Vaarra.funMentions b x = Vaarra.funMentions b f:=fun M hM=>by
     obtain ⟨seg,e,p,m⟩:=Qi6 n _ _ _ _ hM
     refine ⟨(i, .mod s) :: seg,by rw [e];rfl,?_,fun b=>by rw [m b];simp only [Vaarra.funMentions]⟩
     have:=Qas.app (Qhc (i:=i) (n:=s)) p
     exact this
    unfold Vaarra.mods at h
    dsimp only [Vaarra.next] at h
    split at h
    ·exact one _ h
    split at h
    ·exact one _ h
    split at h
    ·exact one _ h
    split at h
    ·exact one _ h
    cases r with
    | nil=>cases h
    | cons q2 r2 =>
     obtain ⟨j,t⟩:=q2
     cases t with
     | num k =>
      have h:(if 0 ≤ k∧k ≤ 5 then Vaarra.mods n (.mod (.at_ k.toNat) f) r2 else Vaarra.wrong ((j, .num k) :: r2)) = .ok (x,ts'):=h
      split at h
      ·obtain ⟨seg,e,p,m⟩:=Qi6 n _ _ _ _ h
       refine ⟨(i, .mod s) :: (j, .num k) :: seg,by rw [e];rfl,?_,fun b=>by rw [m b];simp only [Vaarra.funMentions]⟩
       have:=Qas.app (Qhc (i:=i) (n:=s)) (Qas.app (Qf3 (i:=j) (n:=k)) p)
       exact this
      ·cases h
     | small s=>cases h
     | great s=>cases h
     | mod s=>cases h
     | sign s=>cases h
     | fin=>cases h
   ·rw [Qkn h4] at h
    cases h
    exact ⟨[],rfl,Qas.none,fun _=>rfl⟩
theorem Qq1 {sub:Vaarra.Read Vaarra.Expr} (hs:Prs sub Vaarra.exprMentions):Prs (Vaarra.fn sub) Vaarra.funMentions:=fun ts x ts' h=>by
 obtain ⟨⟨f,t1⟩,h1,h2⟩:=Qax h
 obtain ⟨s1,e1,p1⟩:=Qsc hs _ _ _ h1
 obtain ⟨s2,e2,p2,m⟩:=Qi6 _ _ _ _ _ h2
 refine ⟨s1 ++ s2,by rw [e1,List.append_assoc];congr 1,?_⟩
 have:=Qas.app p1 p2
 simpa [m] using this
theorem Qgs {sub:Vaarra.Read Vaarra.Expr} (hs:Prs sub Vaarra.exprMentions):∀ n,Prs (Vaarra.chain sub n) Vaarra.exprMentions
 | 0=>fun ts x ts' h=>by cases h
 | n + 1=>fun ts x ts' h=>by
  by_cases hb:Vaarra.beginsOperand (Vaarra.next ts) = true
  ·rw [Qgq hb] at h
   obtain ⟨⟨a,t1⟩,h1,h2⟩:=Qax h
   obtain ⟨s1,e1,p1⟩:=Qkh hs _ _ _ h1
   dsimp only at h2
   by_cases hf:Vaarra.beginsFun (Vaarra.next t1) = true
   ·rw [if_pos hf] at h2
    obtain ⟨⟨f,t2⟩,h3,h4⟩:=Qax h2
    obtain ⟨b,h5,rfl⟩:=Qbs h4
    obtain ⟨s2,e2,p2⟩:=Qq1 hs _ _ _ h3
    obtain ⟨s3,e3,p3⟩:=Qgs hs n _ _ _ h5
    refine ⟨s1 ++ s2 ++ s3,?_,?_⟩
    ·dsimp only at e1 e2 e3
     rw [e1,e2,e3];simp
    ·have:=Qas.app (Qas.app p1 p2) p3
     simpa [Vaarra.exprMentions] using this
   ·rw [if_neg hf] at h2
    cases h2
    exact ⟨s1,e1,p1⟩
  ·rw [Qgt (by simpa using hb)] at h
   obtain ⟨⟨f,t2⟩,h3,h4⟩:=Qax h
   obtain ⟨b,h5,rfl⟩:=Qbs h4
   obtain ⟨s2,e2,p2⟩:=Qq1 hs _ _ _ h3
   obtain ⟨s3,e3,p3⟩:=Qgs hs n _ _ _ h5
   refine ⟨s2 ++ s3,?_,?_⟩
   ·dsimp only at e2 e3
    rw [e2,e3];simp
   ·have:=Qas.app p2 p3
    simpa [Vaarra.exprMentions] using this
theorem Qes:∀ n,Prs (Vaarra.level n) Vaarra.exprMentions
 | 0=>fun ts x ts' h=>by cases h
 | n + 1=>fun ts x ts' h=>Qgs (Qes n) _ ts x ts' h
def Qno (b:Bool):Vaarra.Gift→List Vaarra.Mention
 | .expr e=>Vaarra.exprMentions b e
 | .fn f=>Vaarra.funMentions b f
theorem Qkt (g:Vaarra.Gift):Qno false g = Vaarra.giftMentions g:=by cases g <;> rfl
def Qcm (s:Vaarra.Stmt):Vaarra.Tok:=match s.gift with
 | .expr _=>.small s.name
 | .fn _=>.great s.name
def PTk (last:Vaarra.Expr):List Vaarra.Stmt→Vaarra.Toks→Prop
 | [],ts=>∃ seg i,ts = seg ++ [(i, .fin)]∧Qas seg fun b=>Vaarra.exprMentions b last
 | s :: r,ts=>∃ j seg m ts2,ts = (s.place,Qcm s) :: (j, .sign Vaarra.gives) :: (seg ++ (m, .sign [59]) :: ts2)∧Qas seg (fun b=>Qno b s.gift)∧PTk last r ts2
theorem Good.behind:∀ {seg ts:Vaarra.Toks},(∀ q ∈ seg,q.2 ≠ .fin)→Good (seg ++ ts)→Good ts
 | [],_,_,g=>g
 | q :: r,ts,h,g=>Good.behind (fun q' hq=>h q' (List.mem_cons_of_mem _ hq)) (Good.tail (show Good (q :: (r ++ ts)) from g) (h q List.mem_cons_self))
theorem Qgn {A:Type} {sub:Vaarra.Read A} {mf:Bool→A→List Vaarra.Mention} {s:List Nat} {ts ts':Vaarra.Toks} {x:A} (hs:Prs sub mf) (h:Qbj sub s ts = .ok (x,ts')):∃ seg i,ts = seg ++ (i, .sign s) :: ts'∧Qas seg fun b=>mf b x:=by
 obtain ⟨⟨e,t1⟩,h1,h2⟩:=Qax h
 obtain ⟨⟨u,t2⟩,h3,h4⟩:=Qax h2
 cases h4
 obtain ⟨seg,e1,p1⟩:=hs _ _ _ h1
 obtain ⟨i,e2⟩:=Qfa h3
 exact ⟨seg,i,by rw [e1];congr 1,p1⟩
theorem Ql6 {q:Nat × Vaarra.Tok} {ts ts':Vaarra.Toks} {s:Vaarra.Stmt} (h:Qfe q ts = .ok (s,ts')):q = (s.place,Qcm s)∧∃ seg m,ts = seg ++ (m, .sign [59]) :: ts'∧Qas seg fun b=>Qno b s.gift:=by
 obtain ⟨i,t⟩:=q
 cases t with
 | small x =>
  obtain ⟨e,h1,rfl⟩:=Qbs (Qbm.symm.trans h)
  have:=Qgn (Qes 30) h1
  exact ⟨rfl,this⟩
 | great x =>
  obtain ⟨e,h1,rfl⟩:=Qbs (Qbn.symm.trans h)
  have:=Qgn (Qq1 (Qes 29)) h1
  exact ⟨rfl,this⟩
 | num x=>cases h
 | mod x=>cases h
 | sign x=>cases h
 | fin=>cases h
theorem Qf2:∀ (n:Nat) {ts ts':Vaarra.Toks} {p:Vaarra.Program},Good ts→Vaarra.program n ts = .ok (p,ts')→PTk p.last p.stmts ts
 | 0,_,_,_,_,h=>by cases h
 | n + 1,ts,ts',p,g,h=>by
  obtain ⟨q,r,rfl⟩:=g.cons
  by_cases hg:(kc q.2 = 2 ∨ kc q.2 = 3)∧Vaarra.next r = .sign Vaarra.gives
  ·have ng:q.2 ≠ .fin:=fun z=>by rw [z] at hg;rcases hg.1 with h | h <;> cases h
   have g1:Good r:=g.tail ng
   obtain ⟨⟨j,q1⟩,ts1,rfl⟩:=g1.cons
   obtain rfl:q1 = .sign Vaarra.gives:=hg.2
   rw [Qdp hg.1] at h
   obtain ⟨⟨s,ts2⟩,h1,h2⟩:=Qax h
   obtain ⟨p',h3,rfl⟩:=Qbs h2
   obtain ⟨rfl,seg,m,e,ps⟩:=Ql6 h1
   have g2:Good ts1:=g1.tail (by intro h;cases h)
   have g3:Good ts2:=by
    rw [e] at g2
    exact (Good.behind (fun q hq=>(ps.semi q hq).2) g2).tail (by intro h;cases h)
   exact ⟨j,seg,m,ts2,by rw [e],ps,Qf2 n g3 h3⟩
  ·rw [Qdq hg] at h
   obtain ⟨⟨e,ts1⟩,h1,h2⟩:=Qax h
   obtain ⟨seg,e1,ps⟩:=Qes 30 _ _ _ h1
   dsimp only at h2
   have g1:Good ts1:=by rw [e1] at g;exact Good.behind (fun q hq=>(ps.semi q hq).2) g
   by_cases hf:Vaarra.next ts1 = .fin
   ·rw [if_pos hf] at h2
    cases h2
    obtain ⟨⟨i,t⟩,r1,rfl⟩:=g1.cons
    obtain rfl:t = .fin:=hf
    rcases g1 with g1 | g1
    ·obtain ⟨_,rfl⟩:=g1
     exact ⟨seg,i,e1,ps⟩
    ·exact absurd rfl g1.1
   ·rw [if_neg hf] at h2;cases h2
def Qfp (x:List Nat):Prop:=∃ c r,x = c :: r∧Vaarra.small c = true
def Qk5 (x:List Nat):Prop:=∃ c r,x = c :: r∧Vaarra.great c = true
theorem Qb3 {x y:List Nat} (h1:Qfp x) (h2:Qk5 y):x ≠ y:=by
 rintro rfl
 obtain ⟨c,r,rfl,h⟩:=h1
 obtain ⟨d,r',e,h'⟩:=h2
 cases e
 have:=(Qc6 c).mp h
 have:=(Qcf c).mp h'
 omega
structure KOk (k:Vaarra.Known):Prop where
 sm:∀ x ∈ k.smalls,Qfp x
 gr:∀ x ∈ k.greats,Qk5 x
 ins:∀ x ∈ k.inputs,Qfp x
theorem Qd9 {l:List (List Nat)} {x:List Nat} (h:∀ y ∈ l,x ≠ y):l.contains x = false:=by
 rw [← Bool.not_eq_true,List.contains_iff_mem]
 exact fun m=>h x m rfl
theorem Qk7:∀ x ∈ Vaarra.words,∃ c r,x = c :: r∧Vaarra.great c = true:=by
 have:∀ x ∈ Vaarra.words,(x.head?.map Vaarra.great).getD false = true:=by decide
 intro x hx
 have h:=this x hx
 cases x with
 | nil=>cases h
 | cons c r=>exact ⟨c,r,rfl,h⟩
theorem Qql:∀ x,Vaarra.isArg x = true→Qfp x:=by
 intro x h
 unfold Vaarra.isArg at h
 rw [Bool.or_eq_true,beq_iff_eq,beq_iff_eq] at h
 rcases h with rfl | rfl
 ·exact ⟨120,[],rfl,by decide⟩
 ·exact ⟨121,[],rfl,by decide⟩
def Qat (ts:Vaarra.Toks):List (List Nat):=ts.filterMap fun q=>match q.2 with
 | .small x=>some x
 | _=>none
theorem Qcc (x:List Nat):∀ (ts:Vaarra.Toks) (d:Int),(Qat ts).contains x = ((Qb0 d ts).filter (fun m=>!m.great)).any fun m=>m.name == x
 | [],d=>rfl
 | (i,t) :: r,d=>by
  cases t with
  | small y =>
   have e:Qat ((i, .small y) :: r) = y :: Qat r:=rfl
   have e2:Qb0 d ((i, .small y) :: r) = { great:=false,name:=y,place:=i,inBody:=decide (0 < d) } :: Qb0 d r:=rfl
   rw [e,e2,List.contains_cons,Qcc x r d,List.filter_cons]
   simp [Bool.beq_comm]
  | great y =>
   have e:Qat ((i, .great y) :: r) = Qat r:=rfl
   have e2:Qb0 d ((i, .great y) :: r) = if Vaarra.words.contains y then Qb0 d r else { great:=true,name:=y,place:=i,inBody:=decide (0 < d) } :: Qb0 d r:=rfl
   rw [e,e2,Qcc x r d]
   split
   ·rfl
   ·simp
  | sign s=>exact Qcc x r _
  | num s=>exact Qcc x r d
  | mod s=>exact Qcc x r d
  | fin=>exact Qcc x r d
def Qcb (H H':Hp):Prop:=∀ b o,H b = some o→(∀ kvs,o ≠ .dK kvs)→H' b = some o
theorem Qcb.refl (H:Hp):Qcb H H:=fun _ _ e _=>e
theorem Qcb.trans {H H1 H2:Hp} (h1:Qcb H H1) (h2:Qcb H1 H2):Qcb H H2:=fun b o e n=>h2 b o (h1 b o e n) n
theorem Same.keptN {H H':Hp} (h:Same H H'):Qcb H H':=fun b o e _=>h b o e
def nmf (dg di:Addr):List (Str × V):=[("given", .ref dg),("inputs", .ref di)]
theorem Qrc {x:List Nat}:∀ {l:List (List Nat)},x ∈ Vaarra.once l ↔ x ∈ l
 | []=>Iff.rfl
 | y :: r=>by
  have ih:=Qrc (x:=x) (l:=r)
  simp only [Vaarra.once,List.mem_cons,List.mem_filter,bne_iff_ne,ih]
  constructor
  ·rintro (h | ⟨h,_⟩)
   ·exact .inl h
   ·exact .inr h
  ·rintro (h | h)
   ·exact .inl h
   ·by_cases e:x = y
    ·exact .inl e
    ·exact .inr ⟨h,e⟩
theorem Qj7 (x:List Nat):∀ l:List (List Nat),Vaarra.once (l ++ [x]) = if l.contains x then Vaarra.once l else Vaarra.once l ++ [x]
 | []=>rfl
 | y :: r=>by
  have ih:=Qj7 x r
  simp only [List.cons_append,Vaarra.once,ih,List.contains_cons]
  by_cases e:x = y
  ·subst e
   rw [show (x == x || r.contains x) = true from by simp,if_pos rfl]
   split
   ·rfl
   ·rw [List.filter_append];simp
  ·rw [show (x == y) = false from by simpa using e,Bool.false_or]
   split
   ·rfl
   ·rw [List.filter_append]
    rw [show [x].filter (fun z=>z != y) = [x] from by simp [e]]
theorem Qrr (kvs:List (Key × V)) (k:Key) (v:V):(putK kvs k v).map Prod.fst = if (valV kvs k).isSome = true then kvs.map Prod.fst else kvs.map Prod.fst ++ [k]:=by
 unfold putK
 rw [Qen]
 split
 ·rw [List.map_map]
  apply List.map_congr_left
  intro kv _
  show (if kv.1 = k then (kv.1,v) else kv).1 = kv.1
  split <;> rfl
 ·rw [List.map_append];rfl
def NmAt (a:Ad) (H:Hp) (nm:Addr) (k:Vaarra.Known) (n:Nat):Prop:=∃ (dx dg di:Addr) (gk ik:List (Key × V)),H nm = some (.ins a.c_Names dx (nmf dg di))∧H dg = some (.dK gk)∧H di = some (.dK ik)∧dg ≠ di ∧
 (∀ x,(valV gk (.inr (ss x))).isSome = (k.smalls.contains x || k.greats.contains x))∧(∀ x,(valV ik (.inr (ss x))).isSome = k.inputs.contains x)∧gk.length ≤ n∧ik.length ≤ n∧ik.map Prod.fst = (Vaarra.once k.inputs).map fun x=>Sum.inr (ss x)
theorem NmAt.same {a:Ad} {H H':Hp} {nm:Addr} {k:Vaarra.Known} {n:Nat} (h:NmAt a H nm k n) (s:Same H H'):NmAt a H' nm k n:=by
 obtain ⟨dx,dg,di,gk,ik,h1,h2,h3,r⟩:=h
 exact ⟨dx,dg,di,gk,ik,s _ _ h1,s _ _ h2,s _ _ h3,r⟩
theorem NmAt.more {a:Ad} {H:Hp} {nm:Addr} {k:Vaarra.Known} {n n':Nat} (h:NmAt a H nm k n) (l:n ≤ n'):NmAt a H nm k n':=by
 obtain ⟨dx,dg,di,gk,ik,h1,h2,h3,h4,h5,h6,h7,h8,h9⟩:=h
 exact ⟨dx,dg,di,gk,ik,h1,h2,h3,h4,h5,h6,by omega,by omega,h9⟩
theorem TkAt.keptN {a:Ad} {H H':Hp} {y:Addr} {q:Nat × Vaarra.Tok} {x:List Nat} (h:TkAt a H y q x) (k:Qcb H H'):TkAt a H' y q x:=by
 obtain ⟨⟨dx,h1⟩,h2⟩:=h
 exact ⟨⟨dx,k _ _ h1 (by intro kvs q;cases q)⟩,h2⟩
theorem Qb2.keptN {C:Addr} {H H':Hp} {as:List Addr} {T:Vaarra.Toks} (h:Qb2 C H as T) (k:Qcb H H'):Qb2 C H' as T :=
 Qav (fun x y ⟨dx,z,h1,h2⟩=>⟨dx,z,k _ _ h1 (by intro kvs q;cases q),h2⟩) h
def Qh5 (k:Vaarra.Known) (l:List (List Nat)):Vaarra.Known:={ k with inputs:=k.inputs ++ l }
theorem Quj {kvs:List (Key × V)} {l:List (List Nat)} {x:List Nat} {v:V} (h:∀ y,(valV kvs (.inr (ss y))).isSome = l.contains y):∀ y,(valV (putK kvs (.inr (ss x)) v) (.inr (ss y))).isSome = (x :: l).contains y:=by
 intro y
 rw [Ql1,List.contains_cons]
 by_cases e:y = x
 ·subst e;simp
 ·rw [if_neg fun q=>e (Ql7 (Sum.inr.inj q)),h y,beq_eq_false_iff_ne.mpr e,Bool.false_or]
theorem Qju {l:List (List Nat)} {x y:List Nat}:(l ++ [x]).contains y = (x :: l).contains y:=by
 rw [Bool.eq_iff_iff,List.contains_iff_mem,List.contains_iff_mem];simp [or_comm]
theorem Qqk (x:List Nat):([[120],[121]]:List (List Nat)).contains x = Vaarra.isArg x:=by
 unfold Vaarra.isArg
 rw [List.contains_cons,List.contains_cons,List.contains_nil,Bool.or_false];rfl
section
variable {P : Program} {w : World} {K : PySem.W.Frag} {mg : Str → Option Value} {base : Heap} {a : Ad}
def Qvh (a:Ad):Sp:=fun vs H Q _=>∃ x dx,vs = [.ref x]∧H x = some (.ins a.c_Names dx [])∧∀ H',NmAt a H' x {} 0→(∀ b o,H b = some o→b ≠ x→H' b = some o)→Q .non H'
theorem Qxe (T:Txt K mg a):FnOk P w K mg base CX0 1 a.f_qar a.fd_qar ["self"] (Qvh a):=by
 refine T.F_qar.ok Qwd (fun vs H Q E h=>?_) (fun cdv A outer s H vs Q E hr h=>?_)
 ·obtain ⟨x,dx,rfl,_⟩:=h
  rfl
 ·obtain ⟨x,dx,rfl,hx,k⟩:=h
  refine ⟨_,Qa2 (Qbu (pv 0) Qld rfl) (Qa4 (Qbu (pv 0) Qld rfl)),?_⟩
  have c:=T.cl_Names
  intro dg hdg
  have n1:x ≠ dg:=Qa7 hx hdg
  refine ⟨_,rfl,x,_,dx,_,rfl,(by rw [Qa6 n1];exact hx),c,T.n_Names_given,(by show 0 < 1000;decide),?_⟩
  intro di hdi
  have n2:x ≠ di:=fun q=>by rw [← q,Qa3] at hdi;cases hdi
  have n3:dg ≠ di:=fun q=>by rw [← q,Qa6 (Ne.symm n1),Qa3] at hdi;cases hdi
  have hdi0:H di = none:=by rw [Qa6 (Ne.symm n2),Qa6 (Ne.symm n3)] at hdi;exact hdi
  refine ⟨_,rfl,x,_,dx,_,rfl,(by rw [Qa6 n2,Qa3]),c,T.n_Names_inputs,(by show 1 < 1000;decide),?_⟩
  refine k _ ⟨dx,dg,di,[],[],(by rw [Qa3];rfl),(by rw [Qa6 (Ne.symm n1),Qa6 n3,Qa6 (Ne.symm n1),Qa3]),(by rw [Qa6 (Ne.symm n2),Qa3]),n3,fun _=>rfl,fun _=>rfl,Nat.le_refl _,Nat.le_refl _,rfl⟩ fun b o e n=>?_
  rw [Qa6 n,Qa6 (Qa7 e hdi0),Qa6 n,Qa6 (Qa7 e hdg)];exact e
def Qvl (K:PySem.W.Frag) (a:Ad):Sp:=fun vs H Q E=>∃ nm y i x b k n,vs = [.ref nm, .ref y, .bl b]∧NmAt a H nm k n∧KOk k∧n ≤ 9000∧TkAt a H y (i, .small x) x ∧
 (Vaarra.badMention k { great:=false,name:=x,place:=i,inBody:=b } = true→∀ cls d H',EW K a.c_Refused 5 i cls d H'→E cls d H') ∧
 (Vaarra.badMention k { great:=false,name:=x,place:=i,inBody:=b } = false→∀ H',Qcb H H'→NmAt a H' nm (Qh5 k (Vaarra.inputsIn k [{ great:=false,name:=x,place:=i,inBody:=b }])) (n + 1)→Q .non H')
theorem Qpu (k:Vaarra.Known) (x:List Nat) (i:Nat) (b:Bool):Vaarra.inputsIn k [{ great:=false,name:=x,place:=i,inBody:=b }] = if Vaarra.isArg x = false∧k.smalls.contains x = false then [x] else []:=by
 unfold Vaarra.inputsIn
 rw [List.filter_cons,List.filter_nil]
 show List.map _ (if (!false && !Vaarra.isArg x && !k.smalls.contains x) = true then _ else _) = _
 cases h1:Vaarra.isArg x <;> cases h2:k.smalls.contains x <;> rfl
theorem Qge (T:Txt K mg a):FnOk P w K mg base (CX1 P w) 4 a.f_qi a.fd_qi ["self", "token", "within_body"] (Qvl K a):=by
 refine T.F_qi.okX sc_qi (fun vs H Q E h=>?_) (fun cdv A outer s H vs Q E hr h=>?_)
 ·obtain ⟨nm,y,i,x,b,k,n,rfl,_⟩:=h
  rfl
 ·obtain ⟨nm,y,i,x,b,k,n,rfl,N,kok,hn,tk,k1,k2⟩:=h
  have hu:=hr.units
  refine ⟨_,Qa4 (Qb6 (Qac Qbh (Qab (pv 1) (by rfl)) (Qbp (v:=.ref a.p_ARGUMENTS) (by rfl) T.g_ARGUMENTS rfl) (by with_unfolding_all rfl))
    (Qa4 (Qb6 (Qws (Qcs (pv 2))) (Qa4 (Qc8 rfl Qc7 T.em_NameFault (Qx2 T) hr (by rfl) T.g_NameFault T.B_qz (Qab (pv 1) (by rfl)))) Qak))
    (Qa4 (Qb6 (Qix (Qj2 (Nat.lt_of_le_of_lt (Nat.add_le_add_left (by decide) _) hu) (Qab (pv 1) (by rfl)) (Qab (pv 0) (by rfl))) (by with_unfolding_all rfl))
     (Qa4 (Qou (Nat.lt_of_le_of_lt (Nat.add_le_add_left (by decide) _) hu) (Qab (pv 0) (by rfl)) (Qab (pv 1) (by rfl)) Qu6 rfl)) Qak))),?_⟩
  obtain ⟨⟨dy,hy⟩,hx⟩:=id tk
  obtain ⟨dx,dg,di,gk,ik,h1,h2,h3,h4,h5,h6,h7,h8,h9⟩:=id N
  have sx:Qfp x:=hx.2
  refine ⟨_,rfl,y,_,dy,_,_,rfl,hy,T.cl_Token,T.n_Token_spelling,rfl,a.p_ARGUMENTS,_,rfl, .inr (T.q_ARGUMENTS _),rfl,Qbd _,_,rfl,?_⟩
  rw [if_neg Bool.false_ne_true,Qce,Qqk]
  have be:Vaarra.badMention k { great:=false,name:=x,place:=i,inBody:=b } = (Vaarra.isArg x && !b):=rfl
  rw [be] at k1 k2
  rw [Qpu] at k2
  cases ha:Vaarra.isArg x
  case true =>
   rw [ha] at k1 k2
   refine iteT ⟨_,rfl,_,rfl,?_⟩
   cases b
   case true =>
    refine iteF ?_
    refine k2 rfl H (Qcb.refl H) ?_
    rw [if_neg (by simp)]
    show NmAt a H nm { k with inputs:=k.inputs ++ [] } (n + 1)
    rw [List.append_nil]
    exact N.more (by omega)
   case false =>
    refine iteT ⟨_,rfl,y,_,dy,_,_,rfl,hy,T.cl_Token,T.n_Token_position,rfl,?_⟩
    exact Qbk (Qfk T) (k1 rfl)
  case false =>
   rw [ha] at k1 k2
   refine iteF ⟨_,rfl,y,_,dy,_,_,rfl,hy,T.cl_Token,T.n_Token_spelling,rfl,_,rfl,nm,_,dx,_,_,rfl,h1,T.cl_Names,T.n_Names_given,rfl,dg,_,rfl,DGet.k (k:=.inr (ss x)) h2,_,rfl,?_⟩
   rw [h5 x,Qd9 (l:=k.greats) (x:=x) fun z hz=>Qb3 sx (kok.gr z hz),Bool.or_false]
   cases hs:k.smalls.contains x
   case true =>
    rw [hs] at k2
    refine iteF ?_
    refine k2 rfl H (Qcb.refl H) ?_
    rw [if_neg (by simp)]
    show NmAt a H nm { k with inputs:=k.inputs ++ [] } (n + 1)
    rw [List.append_nil]
    exact N.more (by omega)
   case false =>
    rw [hs] at k2
    refine iteT ⟨_,rfl,nm,_,dx,_,_,rfl,h1,T.cl_Names,T.n_Names_inputs,rfl,_,rfl,y,_,dy,_,_,rfl,hy,T.cl_Token,T.n_Token_spelling,rfl,di,_,rfl,DPut.k (k:=.inr (ss x)) h3 (Nat.lt_of_le_of_lt (show ik.length ≤ 9000 by omega) (by decide)),?_⟩
    refine k2 rfl _ (fun b o e ne=>?_) ⟨dx,dg,di,gk,putK ik (.inr (ss x)) (.bl true),?_,?_,Qa3,h4,h5,?_,by omega,by have:=Qda ik (.inr (ss x)) (V.bl true);omega,?_⟩
    ·rw [Qa6 fun q=>by rw [q,h3] at e;cases e;exact ne _ rfl];exact e
    ·rw [Qa6 (Qc2 h1 h3 (by intro q;cases q))];exact h1
    ·rw [Qa6 h4];exact h2
    ·intro z
     rw [Quj h6 z,if_pos ⟨rfl,rfl⟩]
     exact Qju.symm
    ·rw [if_pos ⟨rfl,rfl⟩]
     show _ = (Vaarra.once (k.inputs ++ [x])).map _
     rw [Qj7,Qrr,h6 x]
     split
     ·exact h9
     ·rw [List.map_append,h9];rfl
def Qvk (K:PySem.W.Frag) (a:Ad):Sp:=fun vs H Q E=>∃ nm y i x k n,vs = [.ref nm, .ref y]∧NmAt a H nm k n∧KOk k∧TkAt a H y (i, .great x) x ∧
 (Vaarra.words.contains x = false→k.greats.contains x = false→∀ cls d H',EW K a.c_Refused 5 i cls d H'→E cls d H')∧((Vaarra.words.contains x = true ∨ k.greats.contains x = true)→Q .non H)
theorem Qgd (T:Txt K mg a):FnOk P w K mg base (CX1 P w) 4 a.f_qj a.fd_qj ["self", "token"] (Qvk K a):=by
 refine T.F_qj.okX sc_qj (fun vs H Q E h=>?_) (fun cdv A outer s H vs Q E hr h=>?_)
 ·obtain ⟨nm,y,i,x,k,n,rfl,_⟩:=h
  rfl
 ·obtain ⟨nm,y,i,x,k,n,rfl,N,kok,tk,k1,k2⟩:=h
  have hu:=hr.units
  refine ⟨_,Qa4 (Qb6 (pw_and (Qac Qdr (Qab (pv 1) (by rfl)) (Qbp (v:=.ref a.p_PRIMITIVE_WORDS) (by rfl) T.g_PRIMITIVE_WORDS rfl) (by with_unfolding_all rfl))
    (pw_and1 (Qix (Qj2 (Nat.lt_of_le_of_lt (Nat.add_le_add_left (by decide) _) hu) (Qab (pv 1) (by rfl)) (Qab (pv 0) (by rfl))) (by with_unfolding_all rfl)))).pt
   (Qa4 (Qc8 rfl Qc7 T.em_NameFault (Qx2 T) hr (by rfl) T.g_NameFault T.B_qz (Qab (pv 1) (by rfl)))) Qak),?_⟩
  obtain ⟨⟨dy,hy⟩,hx⟩:=id tk
  obtain ⟨dx,dg,di,gk,ik,h1,h2,h3,h4,h5,h6,h7,h8⟩:=id N
  have sx:Qk5 x:=hx.2
  refine ⟨_,rfl,y,_,dy,_,_,rfl,hy,T.cl_Token,T.n_Token_spelling,rfl,a.p_PRIMITIVE_WORDS,_,rfl, .inr (T.q_PRIMITIVE_WORDS _),rfl,Qbd _,_,rfl,?_⟩
  rw [if_pos rfl,Qce]
  show if (!Vaarra.words.contains x) = true then _ else _
  cases hw:Vaarra.words.contains x
  case true =>
   exact iteF (iteF (k2 (.inl hw)))
  case false =>
   refine iteT ⟨_,rfl,y,_,dy,_,_,rfl,hy,T.cl_Token,T.n_Token_spelling,rfl,_,rfl,nm,_,dx,_,_,rfl,h1,T.cl_Names,T.n_Names_given,rfl,dg,_,rfl,DGet.k (k:=.inr (ss x)) h2,_,rfl,?_⟩
   rw [h5 x,Qd9 (l:=k.smalls) (x:=x) fun z hz=>Ne.symm (Qb3 (kok.sm z hz) sx),Bool.false_or]
   cases hs:k.greats.contains x
   case true=>exact iteF (k2 (.inr hs))
   case false =>
    refine iteT ⟨_,rfl,y,_,dy,_,_,rfl,hy,T.cl_Token,T.n_Token_position,rfl,?_⟩
    exact Qbk (Qfk T) (k1 hw hs)
end
theorem KOk.add {k:Vaarra.Known} {l:List (List Nat)} (h:KOk k) (hl:∀ x ∈ l,Qfp x):KOk (Qh5 k l):=⟨h.sm,h.gr,fun x hx=>(List.mem_append.mp hx).elim (h.ins x) (hl x)⟩
theorem Qcv (k:Vaarra.Known) (l m:List Vaarra.Mention):Vaarra.inputsIn k (l ++ m) = Vaarra.inputsIn k l ++ Vaarra.inputsIn k m:=by
 unfold Vaarra.inputsIn;rw [List.filter_append,List.map_append]
theorem Qk3 (k:Vaarra.Known) (l m:List (List Nat)):Qh5 (Qh5 k l) m = Qh5 k (l ++ m):=by
 unfold Qh5;simp
theorem Qjk (k:Vaarra.Known) (x:List Nat) (i:Nat) (b:Bool):Vaarra.inputsIn k [{ great:=true,name:=x,place:=i,inBody:=b }] = []:=rfl
theorem Qjp {k:Vaarra.Known} {done rest:List Vaarra.Mention} {m:Vaarra.Mention} (h:∀ m ∈ done,Vaarra.badMention k m = false) (hm:Vaarra.badMention k m = true):Vaarra.nameFault k (done ++ m :: rest) = some ⟨5,m.place⟩:=by
 unfold Vaarra.nameFault
 rw [List.find?_append,List.find?_eq_none.mpr (fun x hx=>by rw [h x hx];exact Bool.false_ne_true),Option.none_or,List.find?_cons_of_pos hm];rfl
theorem Qq2 {k:Vaarra.Known} {done:List Vaarra.Mention} (h:∀ m ∈ done,Vaarra.badMention k m = false):Vaarra.nameFault k done = none:=by
 unfold Vaarra.nameFault
 rw [List.find?_eq_none.mpr (fun x hx=>by rw [h x hx];exact Bool.false_ne_true)];rfl
theorem Qli {done:List Vaarra.Mention} {k:Vaarra.Known} {m:Vaarra.Mention} (h:∀ m ∈ done,Vaarra.badMention k m = false) (hm:Vaarra.badMention k m = false):∀ m' ∈ done ++ [m],Vaarra.badMention k m' = false:=fun m' hm'=>by
 rcases List.mem_append.mp hm' with q | q
 ·exact h m' q
 ·rw [List.mem_singleton.mp q];exact hm
section
variable {P : Program} {w : World} {K : PySem.W.Frag} {mg : Str → Option Value} {base : Heap} {a : Ad}
theorem Qfy (T:Txt K mg a) {σ : L2.St} {H:Hp} {F:Bool→Hp→Prop} {v:Nat} {y:Addr} {q:Nat × Vaarra.Tok} {x:List Nat} {z:Str} (j:Nat) (hσ : σ[v]? = some (some (.ref y))) (tk:TkAt a H y q x) (j1 : 1 ≤ j) (j2:j ≤ 12) (hz:z = ks j)
  (h:F (decide (kc q.2 = j)) H):Qg0 (tOp rEq (tFld K (tVar v) "kind") (tC (.str z))) σ H F:=by
 obtain ⟨⟨dy,hy⟩,hx⟩:=id tk
 subst hz
 refine ⟨_,hσ,y,_,dy,_,_,rfl,hy,T.cl_Token,T.n_Token_kind,rfl,rfl,_,rfl,?_⟩
 rw [Qf8 tk.wf j1 j2];exact h
def Qqy (K:PySem.W.Frag) (a:Ad):Sp:=fun vs H Q E=>∃ nm tl as T k n,vs = [.ref nm, .ref tl]∧H tl = some (.lst (as.map V.ref))∧Qb2 a.c_Token H as T∧NmAt a H nm k n∧KOk k∧n + T.length ≤ 9000 ∧
 (∀ f,Vaarra.nameFault k (Qb0 0 T) = some f→∀ cls d H',EW K a.c_Refused f.kind f.place cls d H'→E cls d H') ∧
 (Vaarra.nameFault k (Qb0 0 T) = none→∀ H',Qcb H H'→NmAt a H' nm (Qh5 k (Vaarra.inputsIn k (Qb0 0 T))) (n + T.length)→KOk (Qh5 k (Vaarra.inputsIn k (Qb0 0 T)))→Q .non H')
theorem Qe9 (T:Txt K mg a):FnOk P w K mg base (CX1 P w) 5 a.f_ql a.fd_ql ["self", "tokens"] (Qqy K a):=by
 refine T.F_ql.okX Qvz (fun vs H Q E h=>?_) (fun cdv A outer s H vs Q E hr h=>?_)
 ·obtain ⟨nm,tl,as,T',k,n,rfl,_⟩:=h
  rfl
 ·obtain ⟨nm,tl,as,T',k,n,rfl,htl,tks,N,kok,hn,k1,k2⟩:=h
  have nd:=Qvz.nd
  refine ⟨_,Qa2 (Qao (i:=2) nd rfl (Or.inl rfl) Qai)
   (Qa4 (Qos own1 rfl (Qd6 (pv 1)) (Qci (i:=3) nd rfl (Or.inl rfl))
    (Qa4 (Qb6 (Qac Qc1 (Qab (pv 3) (by rfl)) Qad (Qap _)) (Qa4 (Qhb (i:=2) nd rfl (Or.inl rfl) Qai Qhh))
     (Qa4 (Qb6 (Qac Qc1 (Qab (pv 3) (by rfl)) Qad (Qap _)) (Qa4 (Qhb (i:=2) nd rfl (Or.inl rfl) Qai Qy5))
      (Qa4 (Qb6 (Qac Qc1 (Qab (pv 3) (by rfl)) Qad (Qap _)) (Qa4 (Qaw (Qb8 (pv 0) T.cl_Names T.m_qi (Qge T) hr T.B_qi .nil Qbq (Qa0 (pv 3) (Qa0 (Qg5 Qg8 (pv 2) Qai (Qap _)) Qa5)))))
       (Qa4 (Qb6 (Qac Qc1 (Qab (pv 3) (by rfl)) Qad (Qap _)) (Qa4 (Qaw (Qb8 (pv 0) T.cl_Names T.m_qj (Qgd T) hr T.B_qj .nil Qbq (Qa0 (pv 3) Qa5)))) Qak)))))))))),?_⟩
  refine ⟨_,rfl,tl,rfl,⟨_,SqL.of htl⟩,?_⟩
  have len:(as.map V.ref).length = T'.length:=by rw [List.length_map,tks.length]
  refine Qs1 (K:=K) (a:=tl) (xs:=as.map V.ref) (fun i σ H'=>∃ (d:Int) (done:List Vaarra.Mention) (tv:Option V),σ = [some (.ref nm),some (.ref tl),some (.int d),tv]∧Qcb H H'∧Qb0 0 T' = done ++ Qb0 d (T'.drop i)∧(∀ m ∈ done,Vaarra.badMention k m = false)∧NmAt a H' nm (Qh5 k (Vaarra.inputsIn k done)) (n + i)∧KOk (Qh5 k (Vaarra.inputsIn k done)))
   ⟨0,[],none,rfl,Qcb.refl H,rfl,(fun m h=>by cases h),(by show NmAt a H nm { k with inputs:=k.inputs ++ [] } n;rw [List.append_nil];exact N),kok.add (fun x h=>by cases h)⟩ (fun i σ H' _ ⟨_,_,_,_,kp,_⟩=>SqL.of (kp _ _ htl (by intro _ q;cases q))) (fun i v σ H' hv h=>?_) (fun σ H' h=>?_)
  ·obtain ⟨d,done,tv,rfl,kp,e,good,N',kok'⟩:=h
   rw [List.getElem?_map] at hv
   obtain ⟨y,hy,rfl⟩:=Option.map_eq_some_iff.mp hv
   obtain ⟨q,hq,dq,xq,o1,o2⟩:=Qbt (tks.keptN kp) hy
   have tk:TkAt a H' y q xq:=⟨⟨dq,o1⟩,Qd4 o2⟩
   have li:i < T'.length:=(List.getElem?_eq_some_iff.mp hq).1
   have dr:T'.drop i = q :: T'.drop (i + 1):=by
    rw [List.drop_eq_getElem_cons li]
    rw [List.getElem?_eq_getElem li] at hq
    rw [Option.some.inj hq]
   rw [dr] at e
   obtain ⟨j,t⟩:=q
   have wf:=tk.wf
   refine Qfy T (v:=3) 8 rfl tk (by decide) (by decide) rfl ?_
   by_cases h8:kc t = 8
   ·rw [decide_eq_true h8]
    obtain rfl:t = .sign [123]:=(Qau wf [123] (by decide) (by decide) 8 rfl).mp h8
    refine iteT ⟨_,rfl,_,_,rfl,rfl,d + 1,done,_,rfl,kp,e,good,N'.more (by omega),kok'⟩
   rw [decide_eq_false h8]
   refine iteF (Qfy T (v:=3) 9 rfl tk (by decide) (by decide) rfl ?_)
   by_cases h9:kc t = 9
   ·rw [decide_eq_true h9]
    obtain rfl:t = .sign [125]:=(Qau wf [125] (by decide) (by decide) 9 rfl).mp h9
    refine iteT ⟨_,rfl,_,_,rfl,rfl,d - 1,done,_,rfl,kp,e,good,N'.more (by omega),kok'⟩
   rw [decide_eq_false h9]
   refine iteF (Qfy T (v:=3) 2 rfl tk (by decide) (by decide) rfl ?_)
   obtain ⟨dn,dg,di,gk,ik,nm1,nmr⟩:=id N'
   by_cases h2:kc t = 2
   ·rw [decide_eq_true h2]
    obtain ⟨x,hx⟩:=Qeu.mp h2
    obtain rfl:t = .small x:=hx
    obtain rfl:xq = x:=tk.2.1
    have sx:Qfp xq:=tk.2.2
    refine iteT ⟨_,rfl,nm,dn,_,rfl,nm1,rfl,_,rfl,_,rfl,_,_,rfl,rfl,nm,y,j,xq,decide (0 < d),_,n + i,rfl,N',kok',by omega,tk,fun hb=>?_,fun hb H2 kp2 N2=>?_⟩
    ·exact k1 ⟨5,j⟩ (by rw [e];exact Qjp (m:={ great:=false,name:=xq,place:=j,inBody:=decide (0 < d) }) good hb)
    ·refine ⟨d,done ++ [{ great:=false,name:=xq,place:=j,inBody:=decide (0 < d) }],_,rfl,kp.trans kp2,?_,Qli good (m:={ great:=false,name:=xq,place:=j,inBody:=decide (0 < d) }) hb,?_,?_⟩
     ·rw [e,List.append_assoc];rfl
     ·rw [Qcv,← Qk3];exact N2
     ·rw [Qcv,← Qk3]
      refine kok'.add fun z hz=>?_
      rw [Qpu] at hz
      split at hz
      ·rw [List.mem_singleton.mp hz];exact sx
      ·cases hz
   rw [decide_eq_false h2]
   refine iteF (Qfy T (v:=3) 3 rfl tk (by decide) (by decide) rfl ?_)
   by_cases h3:kc t = 3
   ·rw [decide_eq_true h3]
    obtain ⟨x,hx⟩:=Qfv.mp h3
    obtain rfl:t = .great x:=hx
    obtain rfl:xq = x:=tk.2.1
    have e':Qb0 0 T' = done ++ (if Vaarra.words.contains xq = true then Qb0 d (T'.drop (i + 1)) else { great:=true,name:=xq,place:=j,inBody:=decide (0 < d) } :: Qb0 d (T'.drop (i + 1))):=e
    refine iteT ⟨_,rfl,nm,dn,_,rfl,nm1,rfl,_,rfl,nm,y,j,xq,_,n + i,rfl,N',kok',tk,fun hw hg=>?_,fun hw=>?_⟩
    ·rw [if_neg (by rw [hw];exact Bool.false_ne_true)] at e'
     have bad:Vaarra.badMention k { great:=true,name:=xq,place:=j,inBody:=decide (0 < d) } = true:=by
      show (!k.greats.contains xq) = true
      rw [show k.greats.contains xq = false from hg];rfl
     exact k1 ⟨5,j⟩ (by rw [e'];exact Qjp good bad)
    ·by_cases hw':Vaarra.words.contains xq = true
     ·rw [if_pos hw'] at e'
      exact ⟨d,done,_,rfl,kp,e',good,N'.more (by omega),kok'⟩
     ·rw [if_neg hw'] at e'
      have hg:=hw.resolve_left hw'
      refine ⟨d,done ++ [{ great:=true,name:=xq,place:=j,inBody:=decide (0 < d) }],_,rfl,kp,?_,Qli good ?_,?_,?_⟩
      ·rw [e',List.append_assoc];rfl
      ·show (!k.greats.contains xq) = false
       rw [show k.greats.contains xq = true from hg];rfl
      ·rw [Qcv,Qjk,List.append_nil];exact N'.more (by omega)
      ·rw [Qcv,Qjk,List.append_nil];exact kok'
   rw [decide_eq_false h3]
   refine iteF ⟨d,done,_,rfl,kp,?_,good,N'.more (by omega),kok'⟩
   rw [e]
   congr 1
   cases t with
   | small x=>exact absurd rfl h2
   | great x=>exact absurd rfl h3
   | sign s =>
    show Qb0 (if s = [123] then d + 1 else if s = [125] then d - 1 else d) _ = _
    rw [if_neg (by rintro rfl;exact h8 rfl),if_neg (by rintro rfl;exact h9 rfl)]
   | num x=>rfl
   | mod x=>rfl
   | fin=>rfl
  ·obtain ⟨d,done,tv,rfl,kp,e,good,N',kok'⟩:=h
   rw [len] at e N'
   rw [List.drop_length,show Qb0 d [] = [] from rfl,List.append_nil] at e
   rw [e] at k2
   exact k2 (Qq2 good) H' kp N' kok'
end
def twB (k:Vaarra.Known) (x:List Nat) (seg:Vaarra.Toks):Bool:=Vaarra.isArg x || (Vaarra.words.contains x || ((k.smalls.contains x || k.greats.contains x) || (k.inputs.contains x || (Qat seg).contains x)))
theorem Qm7 (s t:Vaarra.Toks):Qat (s ++ t) = Qat s ++ Qat t:=by unfold Qat;rw [List.filterMap_append]
theorem Qof {q:Nat × Vaarra.Tok} (h:kc q.2 ≠ 2):Qat [q] = []:=by
 obtain ⟨i,t⟩:=q
 cases t with
 | small x=>exact absurd rfl h
 | _=>rfl
theorem Qog (s:Vaarra.Toks):(Qat s).length ≤ s.length:=List.length_filterMap_le _ _
section
variable {P : Program} {w : World} {K : PySem.W.Frag} {mg : Str → Option Value} {base : Heap} {a : Ad}
def spTw (K:PySem.W.Frag) (a:Ad):Sp:=fun vs H Q E=>∃ nm y ol i t x k n as seg,vs = [.ref nm, .ref y, .ref ol]∧NmAt a H nm k n∧TkAt a H y (i,t) x∧H ol = some (.lst (as.map V.ref))∧Qb2 a.c_Token H as seg∧seg.length ≤ 9000 ∧
 (twB k x seg = true→∀ cls d H',EW K a.c_Refused 6 i cls d H'→E cls d H')∧(twB k x seg = false→∀ H',Same H H'→Q .non H')
theorem Qga (T:Txt K mg a):FnOk P w K mg base (CX1 P w) 4 a.f_qh a.fd_qh ["self", "token", "own"] (spTw K a):=by
 refine T.F_qh.okX Qw0 (fun vs H Q E h=>?_) (fun cdv A outer s H vs Q E hr h=>?_)
 ·obtain ⟨nm,y,ol,i,t,x,k,n,as,seg,rfl,_⟩:=h
  rfl
 ·obtain ⟨nm,y,ol,i,t,x,k,n,as,seg,rfl,N,tk,hol,tks,hsz,k1,k2⟩:=h
  have nd:=Qw0.nd
  have hu:=hr.units
  refine ⟨_,Qa2 (Qao (i:=3) nd rfl (Or.inl rfl) (Qab (pv 1) (by rfl)))
   (Qa2 (Qi0 (i:=4) (te:=tFld K (tVar 6) "spelling") (tt:=Qg0 (tOp rEq (tFld K (tVar 6) "kind") (tC (.str "name")))) (own:=[("other",6)]) rfl nd rfl rfl (Qk9 rfl rfl rfl rfl) (Qd6 (pv 2)) (Qck (by rfl)) (fun s H C cl fp=>Qci (i:=6) nd rfl (Or.inl rfl)) (fun s H C cl fp=>Qu2 (Qac Qc1 (Qab (pv 6) (by rfl)) Qad (Qap _))) (fun s H C cl fp=>Qab (pv 6) (by rfl)))
   (Qa2 (Qao (i:=5) nd rfl (Or.inl rfl) (pe_or (Qg5 Qbh (pv 3) (Qbp (v:=.ref a.p_ARGUMENTS) (by rfl) T.g_ARGUMENTS rfl) (by with_unfolding_all rfl)) (Qwy (Qg5 Qbh (pv 3) (Qbp (v:=.ref a.p_PRIMITIVE_WORDS) (by rfl) T.g_PRIMITIVE_WORDS rfl) (by with_unfolding_all rfl)))))
   (Qa4 (Qb6 (pw_or (Qcs (pv 5)) (pw_or (Qix (Qt3 (Nat.lt_of_le_of_lt (Nat.add_le_add_left (by decide) _) hu) (pv 3) (Qab (pv 0) (by rfl))) (by with_unfolding_all rfl)) (pw_or (Qix (Qt3 (Nat.lt_of_le_of_lt (Nat.add_le_add_left (by decide) _) hu) (pv 3) (Qab (pv 0) (by rfl))) (by with_unfolding_all rfl))
     (pw_or1 (Qac Qbh (pv 3) (pv 4) (by with_unfolding_all rfl)))))).pt
    (Qa4 (Qc8 rfl Qc7 T.em_TwiceFault (ok_qy T) hr (by rfl) T.g_TwiceFault T.B_qy (Qab (pv 1) (by rfl)))) Qak)))),?_⟩
  obtain ⟨⟨dy,hy⟩,hx⟩:=id tk
  have len:=tks.length
  refine ⟨_,rfl,y,_,dy,_,_,rfl,hy,T.cl_Token,T.n_Token_spelling,rfl,_,rfl,ol,rfl,⟨_,SqL.of hol⟩,fun D hD=>?_⟩
  refine Qdu (K:=K) (a:=ol) (xs:=as.map V.ref) (fun j H'=>H' D = some (.lst ((Qat (seg.take j)).map fun x=>V.str (ss x)))∧Same H H') ⟨Qa3,fun b o e=>by rw [Qa6 (Qa7 e hD)];exact e⟩ (fun j H' _ h=>SqL.of (h.2 _ _ hol)) (fun j v H' hv h=>?_) (fun H5 h=>?_)
  ·rw [List.getElem?_map] at hv
   obtain ⟨z,hz,rfl⟩:=Option.map_eq_some_iff.mp hv
   obtain ⟨q,hq,dq,xq,o1,o2⟩:=Qbt (tks.same h.2) hz
   have tkq:TkAt a H' z q xq:=⟨⟨dq,o1⟩,Qd4 o2⟩
   have st:Qat (seg.take (j + 1)) = Qat (seg.take j) ++ Qat [q]:=by rw [List.take_succ,hq,Qm7];rfl
   refine ⟨rfl,Qfy T (v:=6) 2 rfl tkq (by decide) (by decide) rfl ?_⟩
   by_cases h2:kc q.2 = 2
   ·rw [decide_eq_true h2]
    obtain ⟨xs,hxs⟩:=Qeu.mp h2
    obtain ⟨iq,tq⟩:=q
    obtain rfl:tq = .small xs:=hxs
    obtain rfl:xq = xs:=tkq.2.1
    refine iteT ⟨_,rfl,z,_,dq,_,_,rfl,o1,T.cl_Token,T.n_Token_spelling,rfl,_,h.1,?_,Qa3.trans ?_,Qaj h.2 hD⟩
    ·rw [List.length_map]
     have:=Qog (seg.take j)
     rw [List.length_take] at this
     exact Nat.lt_of_le_of_lt (show _ ≤ 9000 by omega) (by decide)
    ·rw [st,List.map_append];rfl
   ·rw [decide_eq_false h2]
    refine iteF ⟨?_,h.2⟩
    rw [st,Qof h2,List.append_nil];exact h.1
  obtain ⟨hD5,sm⟩:=h
  rw [List.length_map,len,List.take_length] at hD5
  obtain ⟨dx,dg,di,gk,ik,h1,h2,h3,h4,h5,h6,h7,h8⟩:=N.same sm
  have hy5:=sm _ _ hy
  have raise:twB k x seg = true→([.int i]:List V).length ≤ 1000∧∀ z,H5 z = none→spFI K 6 (.ref z :: [.int i]) (upd H5 z (XO z a.c_TwiceFault none .none)) (fun v H2=>v = .non∧∃ x' C dx fs,V.ref z = .ref x'∧ECl K C∧Fly H2 x' C dx .none fs∧E (.ref C) (some dx) (one dx fs)) E0 :=
   fun h=>Qbk (Qib T) (k1 h)
  unfold twB at raise k2
  refine ⟨_,rfl,a.p_ARGUMENTS,_,rfl, .inr (T.q_ARGUMENTS _),rfl,Qbd _,_,rfl,?_⟩
  rw [if_neg Bool.false_ne_true,Qce,Qqk]
  cases ha:Vaarra.isArg x
  case true =>
   rw [ha] at raise
   exact iteT ⟨_,rfl,_,rfl,iteT (iteT ⟨_,rfl,y,_,dy,_,_,rfl,hy5,T.cl_Token,T.n_Token_position,rfl,raise rfl⟩)⟩
  case false =>
  rw [ha,Bool.false_or] at raise k2
  refine iteF ⟨_,rfl,a.p_PRIMITIVE_WORDS,_,rfl, .inr (T.q_PRIMITIVE_WORDS _),rfl,Qbd _,?_⟩
  rw [if_neg Bool.false_ne_true,Qce]
  refine ⟨_,rfl,_,rfl,?_⟩
  show if Vaarra.words.contains x = true then _ else _
  cases hw:Vaarra.words.contains x
  case true =>
   rw [hw] at raise
   exact iteT (iteT ⟨_,rfl,y,_,dy,_,_,rfl,hy5,T.cl_Token,T.n_Token_position,rfl,raise rfl⟩)
  case false =>
  rw [hw,Bool.false_or] at raise k2
  refine iteF ⟨_,rfl,_,rfl,nm,_,dx,_,_,rfl,h1,T.cl_Names,T.n_Names_given,rfl,dg,_,rfl,DGet.k (k:=.inr (ss x)) h2,_,rfl,?_⟩
  rw [h5 x]
  cases hg:(k.smalls.contains x || k.greats.contains x)
  case true =>
   rw [hg] at raise
   exact iteT (iteT ⟨_,rfl,y,_,dy,_,_,rfl,hy5,T.cl_Token,T.n_Token_position,rfl,raise rfl⟩)
  case false =>
  rw [hg,Bool.false_or] at raise k2
  refine iteF ⟨_,rfl,_,rfl,nm,_,dx,_,_,rfl,h1,T.cl_Names,T.n_Names_inputs,rfl,di,_,rfl,DGet.k (k:=.inr (ss x)) h3,_,rfl,?_⟩
  rw [h6 x]
  cases hi:k.inputs.contains x
  case true =>
   rw [hi] at raise
   exact iteT (iteT ⟨_,rfl,y,_,dy,_,_,rfl,hy5,T.cl_Token,T.n_Token_position,rfl,raise rfl⟩)
  case false =>
  rw [hi,Bool.false_or] at raise k2
  refine iteF ⟨_,rfl,_,rfl,D,_,rfl, .inl (SqL.of hD5),rfl,Qbd _,_,rfl,?_⟩
  rw [if_neg Bool.false_ne_true,show inV (V.str (ss x)) ((Qat seg).map fun x=>V.str (ss x)) = _ from Qce (Qat seg) x]
  cases hm:(Qat seg).contains x
  case true=>exact iteT ⟨_,rfl,y,_,dy,_,_,rfl,hy5,T.cl_Token,T.n_Token_position,rfl,raise hm⟩
  case false=>exact iteF (k2 hm H5 sm)
end
theorem Qyg {α : Type} (l:List α) (a b:Nat):(l.drop (min a l.length)).take (min b l.length - min a l.length) = (l.drop a).take (b - a):=by
 apply List.ext_getElem?
 intro i
 rw [List.getElem?_take,List.getElem?_take,List.getElem?_drop,List.getElem?_drop]
 by_cases h1:a ≤ l.length
 ·rw [Nat.min_eq_left h1]
  by_cases h2:i < b - a
  ·rw [if_pos h2]
   by_cases h3:a + i < l.length
   ·rw [if_pos (by omega)]
   ·rw [List.getElem?_eq_none (by omega)];split <;> rfl
  ·rw [if_neg h2,if_neg (by omega)]
 ·rw [Nat.min_eq_right (show l.length ≤ a by omega)]
  have e:∀ k,l[l.length + k]? = none:=fun k=>List.getElem?_eq_none (by omega)
  rw [List.getElem?_eq_none (show l.length ≤ a + i by omega),e]
  split <;> split <;> rfl
theorem Qs7 (as:List Addr) (lo hi:Nat):cutV (as.map V.ref) (some (lo:Int)) (some (hi:Int)) = ((as.drop lo).take (hi - lo)).map V.ref:=by
 unfold cutV
 rw [HT.sIx_nat,HT.sIx_nat,Qyg,List.map_take,List.map_drop]
theorem Qqf (as:List Addr) (lo:Nat):cutV (as.map V.ref) (some (lo:Int)) none = (as.drop lo).map V.ref:=by
 unfold cutV
 rw [HT.sIx_nat,HT.sIx_none]
 have:=Qyg (as.map V.ref) lo (as.map V.ref).length
 rw [Nat.min_self] at this
 rw [this,List.take_of_length_le (by rw [List.length_drop];omega),List.map_drop]
theorem Qeg {α β : Type} {R : α→β→Prop}:∀ (n:Nat) {l:List α} {m:List β},Paired R l m→Paired R (l.drop n) (m.drop n)
 | 0,_,_,h=>h
 | _ + 1,_,_, .nil=>.nil
 | n + 1,_,_, .cons _ t=>Qeg n t
theorem Qg6 {α β : Type} {R : α→β→Prop}:∀ (n:Nat) {l:List α} {m:List β},Paired R l m→Paired R (l.take n) (m.take n)
 | 0,_,_,_=>.nil
 | _ + 1,_,_, .nil=>.nil
 | n + 1,_,_, .cons h t=>.cons h (Qg6 n t)
theorem Qlh {seg:Vaarra.Toks} {m:Bool→List Vaarra.Mention} (h:Qas seg m):Qb0 0 seg = m false:=by
 have:=h.men 0 [] (Int.le_refl 0)
 rw [List.append_nil,show Qb0 0 [] = [] from rfl,List.append_nil] at this
 exact this
theorem Qio {seg:Vaarra.Toks} {x:List Nat} (hw:∀ q ∈ seg,Wf q.2) (hx:Qk5 x):(Qat seg).contains x = false:=by
 refine Qd9 fun y hy=>?_
 unfold Qat at hy
 obtain ⟨⟨i,t⟩,hq,e⟩:=List.mem_filterMap.mp hy
 cases t with
 | small z =>
  cases e
  obtain ⟨_,hs⟩:=hw _ hq
  exact Ne.symm (Qb3 (x:=y) hs.2 hx)
 | num z=>cases e
 | great z=>cases e
 | mod z=>cases e
 | sign z=>cases e
 | fin=>cases e
theorem Qyj {k:Vaarra.Known} {l:List Vaarra.Mention} {x:List Nat} (h1:Vaarra.isArg x = false) (h2:k.smalls.contains x = false):((l.filter fun m=>!m.great).any fun m=>m.name == x) = (Vaarra.inputsIn k l).contains x:=by
 unfold Vaarra.inputsIn
 rw [Bool.eq_iff_iff,List.any_eq_true,List.contains_iff_mem]
 constructor
 ·rintro ⟨m,hm,e⟩
  obtain rfl:m.name = x:=by simpa using e
  obtain ⟨hm1,hm2⟩:=List.mem_filter.mp hm
  exact List.mem_map.mpr ⟨m,List.mem_filter.mpr ⟨hm1,by rw [h1,h2];simpa using hm2⟩,rfl⟩
 ·intro hm
  obtain ⟨m,hm',rfl⟩:=List.mem_map.mp hm
  obtain ⟨hm1,hm2⟩:=List.mem_filter.mp hm'
  rw [Bool.and_eq_true,Bool.and_eq_true] at hm2
  exact ⟨m,List.mem_filter.mpr ⟨hm1,hm2.1.1⟩,by simp⟩
theorem twice_eq {k:Vaarra.Known} {s:Vaarra.Stmt} {seg:Vaarra.Toks} (kok:KOk k) (hw:∀ q ∈ seg,Wf q.2) (hn:Wf (Qcm s)) (hp:Qas seg fun b=>Qno b s.gift):twB k s.name seg = Vaarra.isTwice k s:=by
 obtain ⟨nm,pl,g⟩:=s
 cases g with
 | expr e =>
  obtain ⟨_,_,sx⟩:=hn
  have sx:Qfp nm:=sx
  have w0:Vaarra.words.contains nm = false:=Qd9 fun y hy=>Qb3 sx (Qk7 y hy)
  have g0:k.greats.contains nm = false:=Qd9 fun y hy=>Qb3 sx (kok.gr y hy)
  show (Vaarra.isArg nm || (Vaarra.words.contains nm || ((k.smalls.contains nm || k.greats.contains nm) || (k.inputs.contains nm || (Qat seg).contains nm)))) = (Vaarra.isArg nm || k.smalls.contains nm || k.inputs.contains nm || (Vaarra.inputsIn k (Vaarra.exprMentions false e)).contains nm)
  rw [w0,g0,Bool.false_or,Bool.or_false]
  cases ha:Vaarra.isArg nm
  case true=>simp
  case false =>
   cases hs:k.smalls.contains nm
   case true=>simp
   case false =>
    rw [Qcc nm seg 0,Qlh hp,Qyj ha hs]
    simp [Qno]
 | fn f =>
  obtain ⟨_,_,sx⟩:=hn
  have sx:Qk5 nm:=sx
  have a0:Vaarra.isArg nm = false:=by
   rw [← Bool.not_eq_true]
   exact fun h=>Qb3 (Qql nm h) sx rfl
  have s0:k.smalls.contains nm = false:=Qd9 fun y hy=>Ne.symm (Qb3 (kok.sm y hy) sx)
  have i0:k.inputs.contains nm = false:=Qd9 fun y hy=>Ne.symm (Qb3 (kok.ins y hy) sx)
  show (Vaarra.isArg nm || (Vaarra.words.contains nm || ((k.smalls.contains nm || k.greats.contains nm) || (k.inputs.contains nm || (Qat seg).contains nm)))) = (Vaarra.words.contains nm || k.greats.contains nm)
  rw [a0,s0,i0,Qio hw sx];simp
section
variable {P : Program} {w : World} {K : PySem.W.Frag} {mg : Str → Option Value} {base : Heap} {a : Ad}
theorem Qsh {C:Addr} {H:Hp}:∀ {as:List Addr} {T:Vaarra.Toks},Qb2 C H as T→∀ q ∈ T,Wf q.2
 | _,_, .nil,q,hq=>by cases hq
 | _,_, .cons ⟨_,x,_,h⟩ t,q,hq=>by
  rcases List.mem_cons.mp hq with rfl | hq
  ·exact ⟨x,Qd4 h⟩
  ·exact Qsh t q hq
theorem Qrv {kvs:List (Key × V)} {x:List Nat} {v:V} (y:List Nat):(valV (putK kvs (.inr (ss x)) v) (.inr (ss y))).isSome = (y == x || (valV kvs (.inr (ss y))).isSome):=by
 rw [Ql1]
 by_cases e:y = x
 ·subst e;simp
 ·rw [if_neg fun q=>e (Ql7 (Sum.inr.inj q)),beq_eq_false_iff_ne.mpr e,Bool.false_or]
def Qvo (K:PySem.W.Frag) (a:Ad):Sp:=fun vs H Q E=>∃ nm y ol k n as seg s,vs = [.ref nm, .ref y, .ref ol]∧NmAt a H nm k n∧KOk k∧TkAt a H y (s.place,Qcm s) s.name∧H ol = some (.lst (as.map V.ref))∧Qb2 a.c_Token H as seg∧Qas seg (fun b=>Qno b s.gift)∧n + seg.length ≤ 8000 ∧
 (Vaarra.isTwice k s = true→∀ cls d H',EW K a.c_Refused 6 s.place cls d H'→E cls d H') ∧
 (Vaarra.isTwice k s = false→∀ f,Vaarra.nameFault k (Vaarra.giftMentions s.gift) = some f→∀ cls d H',EW K a.c_Refused f.kind f.place cls d H'→E cls d H') ∧
 (Vaarra.isTwice k s = false→Vaarra.nameFault k (Vaarra.giftMentions s.gift) = none→∀ H',Qcb H H'→NmAt a H' nm (Vaarra.learn k s) (n + seg.length + 1)→KOk (Vaarra.learn k s)→Q .non H')
theorem Qu8 (T:Txt K mg a):FnOk P w K mg base (CX1 P w) 6 a.f_qau a.fd_qau ["self", "token", "own"] (Qvo K a):=by
 refine T.F_qau.okX Qwb (fun vs H Q E h=>?_) (fun cdv A outer s H vs Q E hr h=>?_)
 ·obtain ⟨nm,y,ol,k,n,as,seg,st,rfl,_⟩:=h
  rfl
 ·obtain ⟨nm,y,ol,k,n,as,seg,st,rfl,N,kok,tk,hol,tks,hp,sz,k1,k2,k3⟩:=h
  have hu:=hr.units
  refine ⟨_,Qa2 (Qaw (Qb8 (pv 0) T.cl_Names T.m_qh (Qga T) (hr.mono (by decide)) T.B_qh .nil Qbq (Qa0 (pv 1) (Qa0 (pv 2) Qa5))))
   (Qa2 (Qaw (Qb8 (pv 0) T.cl_Names T.m_ql (Qe9 T) hr T.B_ql .nil Qbq (Qa0 (pv 2) Qa5)))
   (Qa4 (Qou (Nat.lt_of_le_of_lt (Nat.add_le_add_left (by decide) _) hu) (Qab (pv 0) (by rfl)) (Qab (pv 1) (by rfl)) Qu6 rfl))),?_⟩
  obtain ⟨dx,dg,di,gk,ik,h1,_⟩:=id N
  have te:=twice_eq kok (Qsh tks) tk.wf hp
  have me:Qb0 0 seg = Vaarra.giftMentions st.gift:=by rw [Qlh hp];exact Qkt _
  refine ⟨_,rfl,nm,dx,_,rfl,h1,rfl,_,rfl,_,rfl,nm,y,ol,_,_,_,k,n,as,seg,rfl,N,tk,hol,tks,by omega,fun h=>k1 (by rw [← te];exact h),fun h H1 sm=>?_⟩
  have it:Vaarra.isTwice k st = false:=by rw [← te];exact h
  refine ⟨_,rfl,nm,dx,_,rfl,sm _ _ h1,rfl,_,rfl,nm,ol,as,seg,k,n,rfl,sm _ _ hol,tks.same sm,N.same sm,kok,by omega,fun f hf=>k2 it f (by rw [← me];exact hf),fun hf H2 kp N2 kok2=>?_⟩
  obtain ⟨⟨dy,hy⟩,hx⟩:=(tk.keptN (Same.keptN sm)).keptN kp
  obtain ⟨dx2,dg2,di2,gk2,ik2,g1,g2,g3,g4,g5,g6,g7,g8,g9⟩:=N2
  refine ⟨_,rfl,nm,_,dx2,_,_,rfl,g1,T.cl_Names,T.n_Names_given,rfl,_,rfl,y,_,dy,_,_,rfl,hy,T.cl_Token,T.n_Token_spelling,rfl,dg2,_,rfl,DPut.k (k:=.inr (ss st.name)) g2 (Nat.lt_of_le_of_lt (show gk2.length ≤ 9000 by omega) (by decide)),?_⟩
  rw [me] at g6 kok2 g5 g9
  refine k3 it (by rw [← me];exact hf) _ ((Same.keptN sm).trans (kp.trans fun b o e ne=>?_)) ⟨dx2,dg2,di2,putK gk2 (.inr (ss st.name)) (.bl true),ik2,?_,Qa3,?_,g4,fun z=>?_,fun z=>?_,by have:=Qda gk2 (.inr (ss st.name)) (V.bl true);omega,by omega,?_⟩ ?_
  ·rw [Qa6 fun q=>by rw [q,g2] at e;cases e;exact ne _ rfl];exact e
  ·rw [Qa6 (Qc2 g1 g2 (by intro q;cases q))];exact g1
  ·rw [Qa6 (Ne.symm g4)];exact g3
  ·rw [Qrv z,g5 z]
   obtain ⟨nm',pl,g⟩:=st
   cases g with
   | expr e =>
    show (z == nm' || (k.smalls.contains z || k.greats.contains z)) = ((nm' :: k.smalls).contains z || k.greats.contains z)
    rw [List.contains_cons,Bool.or_assoc]
   | fn f =>
    show (z == nm' || (k.smalls.contains z || k.greats.contains z)) = (k.smalls.contains z || (nm' :: k.greats).contains z)
    rw [List.contains_cons]
    cases (z == nm') <;> cases (k.smalls.contains z) <;> cases (k.greats.contains z) <;> rfl
  ·rw [g6 z]
   obtain ⟨nm',pl,g⟩:=st
   cases g <;> rfl
  ·rw [g9]
   obtain ⟨nm',pl,g⟩:=st
   cases g <;> rfl
  ·obtain ⟨nm',pl,g⟩:=st
   cases g with
   | expr e =>
    obtain ⟨_,_,sx⟩:=(tk.wf:Wf (.small nm'))
    refine ⟨fun x hx=>?_,kok2.gr,kok2.ins⟩
    rcases List.mem_cons.mp (show x ∈ nm' :: k.smalls from hx) with rfl | hx
    ·exact sx
    ·exact kok2.sm x hx
   | fn f =>
    obtain ⟨_,_,sx⟩:=(tk.wf:Wf (.great nm'))
    refine ⟨kok2.sm,fun x hx=>?_,kok2.ins⟩
    rcases List.mem_cons.mp (show x ∈ nm' :: k.greats from hx) with rfl | hx
    ·exact sx
    ·exact kok2.gr x hx
end
theorem Qur:bootBuiltins "list" = some (.type "list"):=by decide +kernel
theorem Qi4 (s:Vaarra.Stmt):Qcm s ≠ .sign [59]:=by
 obtain ⟨n,p,g⟩:=s
 cases g <;> (intro h;cases h)
theorem Qnr {T A ts2:Vaarra.Toks} {b i m:Nat} {q:Nat × Vaarra.Tok} (hd:T.drop b = A ++ (m, .sign [59]) :: ts2) (hA:∀ q ∈ A,q.2 ≠ .sign [59]) (hb:b ≤ i) (hq:T[i]? = some q) (hs:q.2 = .sign [59])
  (hno:∀ j q,b ≤ j→j < i→T[j]? = some q→q.2 ≠ .sign [59]):i = b + A.length:=by
 have at':T[b + A.length]? = some (m, .sign [59]):=by
  rw [← List.getElem?_drop,hd,List.getElem?_append_right (Nat.le_refl _),Nat.sub_self];rfl
 rcases Nat.lt_trichotomy i (b + A.length) with h | h | h
 ·have:A[i - b]? = some q:=by
   rw [← List.getElem?_append_left (l₂:=(m, .sign [59]) :: ts2) (by omega),← hd,List.getElem?_drop,show b + (i - b) = i by omega];exact hq
  exact absurd hs (hA q (List.mem_of_getElem? this))
 ·exact h
 ·exact absurd rfl (hno _ _ (Nat.le_add_right _ _) h at')
section
variable {P : Program} {w : World} {K : PySem.W.Frag} {mg : Str → Option Value} {base : Heap} {a : Ad}
theorem Quw {H:Hp} {as:List Addr} {T:Vaarra.Toks} {i:Nat} {q:Nat × Vaarra.Tok} (h:Qb2 a.c_Token H as T) (e:T[i]? = some q):∃ y x,(as.map V.ref)[i]? = some (.ref y)∧TkAt a H y q x:=by
 obtain ⟨y,h1,dx,x,h2,h3⟩:=h.get e
 exact ⟨y,x,by rw [List.getElem?_map,h1];rfl,⟨dx,h2⟩,Qd4 h3⟩
theorem Qnf {s:Vaarra.Stmt} {x:List Nat} (h:Qsg (Qcm s) x):x = s.name:=by
 obtain ⟨n,p,g⟩:=s
 cases g with
 | expr e=>exact h.1
 | fn f=>exact h.1
theorem Qrp {H:Hp} {F:Addr→Hp→Prop} {E:XK} (h:∀ H' x,H x = none→Same H H'→NmAt a H' x {} 0→F x H'):∀ x dx,H x = none→H dx = none→dx ≠ x →
  Qvh a (.ref x :: ([] ++ [])) (upd (upd H dx (.own x)) x (.ins a.c_Names dx [])) (fun v H2=>v = .non∧F x H2) E:=by
 intro x dx hx hd ne
 have k1:∀ b o,H b = some o→upd (upd H dx (.own x)) x (.ins a.c_Names dx []) b = some o:=fun b o e=>by rw [Qa6 (Qa7 e hx),Qa6 (Qa7 e hd)];exact e
 exact ⟨x,dx,rfl,Qa3,fun H' e1 e2=>⟨rfl,h H' x hx (fun b o e=>e2 b o (k1 b o e) (Qa7 e hx)) e1⟩⟩
theorem Qns {last:Vaarra.Expr} {s:Vaarra.Stmt} {r:List Vaarra.Stmt} {k:Vaarra.Known}:Vaarra.faultIn last (s :: r) k = if Vaarra.isTwice k s = true then some ⟨6,s.place⟩ else match Vaarra.nameFault k (Vaarra.giftMentions s.gift) with
  | some f=>some f
  | none=>Vaarra.faultIn last r (Vaarra.learn k s):=rfl
def spRN (K:PySem.W.Frag) (a:Ad):Sp:=fun vs H Q E=>∃ tl as T last stmts,vs = [.ref tl]∧H tl = some (.lst (as.map V.ref))∧Qb2 a.c_Token H as T∧T.length ≤ 2049∧PTk last stmts T ∧
 (∀ f,Vaarra.faultIn last stmts {} = some f→∀ cls d H',EW K a.c_Refused f.kind f.place cls d H'→E cls d H') ∧
 (Vaarra.faultIn last stmts {} = none→∀ H' li,Qcb H H'→H' li = some (.lst (insV (Vaarra.inputs ⟨stmts,last⟩)))→Q (.ref li) H')
theorem Qxc (T:Txt K mg a):FnOk P w K mg base (CX1 P w) 7 a.f_qay a.fd_qay ["tokens"] (spRN K a):=by
 refine T.F_qay.okX Qss (fun vs H Q E h=>?_) (fun cdv A outer s H vs Q E hr h=>?_)
 ·obtain ⟨tl,as,T',last,stmts,rfl,_⟩:=h
  rfl
 ·obtain ⟨tl,as,T',last,stmts,rfl,htl,tks,hsz,hp,k1,k2⟩:=h
  have nd:=Qss.nd
  refine ⟨_,Qa2 (Qao (i:=1) nd rfl (Or.inl rfl) (Qra T.mk_Names (Qxe T) (hr.mono (by decide)) rfl T.g_Names T.B_qar .nil Qam))
   (Qa2 (Qao (i:=2) nd rfl (Or.inl rfl) Qai)
   (Qa2 (Qos own1 rfl (Qox (by rfl) T.z_range (Qa0 (Qbf Qfo (by rfl) T.z_len PySem.boot_len (Qa0 (pv 0) Qa5)) Qa5)) (Qci (i:=3) nd rfl (Or.inl rfl))
    (Qa4 (Qb6 (Qac Qc1 (Qab (Qcd Qbw (pv 0) (pv 3) (fun _ _=>rfl)) (by rfl)) Qad (Qap _))
     (Qa2 (Qaw (Qb8 (pv 1) T.cl_Names T.m_qau (Qu8 T) hr T.B_qau .nil Qbq (Qa0 (Qcd Qbw (pv 0) (pv 2) (fun _ _=>rfl)) (Qa0 (Qct Qoh (pv 0) (Qc9 (Qbl Qd0 (pv 2) Qai)) (Qc9 (pv 3))) Qa5))))
     (Qa4 (Qao (i:=2) nd rfl (Or.inl rfl) (Qbl Qd0 (pv 3) Qai)))) Qak)))
   (Qa2 (Qaw (Qb8 (pv 1) T.cl_Names T.m_ql (Qe9 T) (hr.mono (by decide)) T.B_ql .nil Qbq (Qa0 (Qct Qoh (pv 0) (Qc9 (pv 2)) Qov) Qa5)))
   (Qa4 (Qae (Qcz (Qh2 rfl) (by rfl) T.z_list Qur (Qa0 (Qab (pv 1) (by rfl)) Qa5))))))),?_⟩
  show ∀ (x dx:Addr),H x = none→H dx = none→dx ≠ x→_
  refine Qrp (E:=E0) fun H1 nm hnm sm1 N1=>?_
  have len:(as.map V.ref).length = T'.length:=by rw [List.length_map,tks.length]
  refine ⟨_,rfl,tl,_,rfl, .inl (SqL.of (sm1 _ _ htl)),_,rfl,?_,?_,?_⟩
  ·show -(2 ^ 62) ≤ (((as.map V.ref).length:Nat):Int);omega
  ·show (((as.map V.ref).length:Nat):Int) < 2 ^ 62;omega
  refine Qpz (lo:=0) (n:=(as.map V.ref).length) (fun i σ H'=>∃ (b:Nat) (k:Vaarra.Known) (rest:List Vaarra.Stmt) (pv:Option V),σ = [some (.ref tl),some (.ref nm),some (.int b),pv]∧b ≤ i∧Qcb H H'∧NmAt a H' nm k b∧KOk k∧PTk last rest (T'.drop b) ∧
    (∀ j q,b ≤ j→j < i→T'[j]? = some q→q.2 ≠ .sign [59])∧Vaarra.faultIn last stmts {} = Vaarra.faultIn last rest k∧Vaarra.knownIn stmts {} = Vaarra.knownIn rest k)
   ⟨0,{},stmts,none,rfl,Nat.le_refl _,Same.keptN sm1,N1,⟨fun x h=>(by cases h),fun x h=>(by cases h),fun x h=>(by cases h)⟩,hp,fun j q _ h=>absurd h (Nat.not_lt_zero _),rfl,rfl⟩ (fun i σ H' hi h=>?_) (fun σ H' h=>?_)
  ·obtain ⟨b,k,rest,pv,rfl,hb,kp,N,kok,ptk,hno,fe,kn⟩:=h
   rw [len] at hi
   rw [Int.zero_add]
   obtain ⟨q,hq⟩ : ∃ q,T'[i]? = some q:=⟨_,List.getElem?_eq_getElem hi⟩
   have htl':H' tl = some (.lst (as.map V.ref)):=kp _ _ htl (by intro _ q;cases q)
   have tks':=tks.keptN kp
   obtain ⟨y,x,hy,tk⟩:=Quw (a:=a) tks' hq
   obtain ⟨⟨dy,ho⟩,hx⟩:=id tk
   refine ⟨_,rfl,_,rfl,tl,_,_,_,rfl,rfl,SqL.of htl',Qcq hy,y,_,dy,_,_,rfl,ho,T.cl_Token,T.n_Token_kind,rfl,rfl,_,rfl,?_⟩
   rw [show decide (V.str (Qet q.2) = V.str (";" : Str)) = decide (kc q.2 = 10) from Qf8 tk.wf (j:=10) (by decide) (by decide)]
   by_cases h10:kc q.2 = 10
   ·rw [decide_eq_true h10]
    have hs:q.2 = .sign [59]:=(Qau tk.wf [59] (by decide) (by decide) 10 rfl).mp h10
    cases rest with
    | nil =>
     obtain ⟨seg,m,e,ps⟩:=ptk
     have:(T'.drop b)[i - b]? = some q:=by rw [List.getElem?_drop,show b + (i - b) = i by omega];exact hq
     rw [e] at this
     rcases List.mem_append.mp (List.mem_of_getElem? this) with hm | hm
     ·exact absurd hs (ps.semi q hm).1
     ·rw [List.mem_singleton.mp hm] at hs;cases hs
    | cons st rest =>
     obtain ⟨jj,seg,m,ts2,e,ps,pt2⟩:=ptk
     have e':T'.drop b = ((st.place,Qcm st) :: (jj, .sign Vaarra.gives) :: seg) ++ (m, .sign [59]) :: ts2:=e
     have hA:∀ q ∈ (st.place,Qcm st) :: (jj, .sign Vaarra.gives) :: seg,q.2 ≠ .sign [59]:=fun q hq=>by
      rcases List.mem_cons.mp hq with rfl | hq
      ·exact Qi4 st
      ·rcases List.mem_cons.mp hq with rfl | hq
       ·intro h;exact absurd (Vaarra.Tok.sign.inj h) (by decide)
       ·exact (ps.semi q hq).1
     have ei:=Qnr e' hA hb hq hs hno
     rw [List.length_cons,List.length_cons] at ei
     have tb:T'[b]? = some (st.place,Qcm st):=(Qan e).1
     have e1:T'.drop (b + 1) = (jj, .sign Vaarra.gives) :: (seg ++ (m, .sign [59]) :: ts2):=(Qan e).2
     have e2:T'.drop (b + 2) = seg ++ (m, .sign [59]) :: ts2:=(Qan e1).2
     have e3:T'.drop (i + 1) = ts2:=by
      rw [show i + 1 = (b + 2) + (seg.length + 1) by omega,← List.drop_drop,e2,← List.drop_drop,List.drop_left];rfl
     obtain ⟨yb,xb,hyb,tkb⟩:=Quw (a:=a) tks' tb
     obtain rfl:xb = st.name:=Qnf tkb.2
     obtain ⟨dn,dg,di,gk,ik,hn1,_⟩:=id N
     have i2:i - (b + 2) = seg.length:=by omega
     refine iteT ⟨_,rfl,nm,dn,_,rfl,hn1,rfl,_,rfl,_,rfl,tl,_,_,_,rfl,rfl,SqL.of htl',Qcq hyb,_,rfl,_,rfl,_,_,rfl,rfl,_,rfl,_,rfl,_,rfl,tl,_,rfl,SqL.of htl',fun ol hol=>?_⟩
     rw [show (b:Int) + 2 = ((b + 2:Nat):Int) by omega,Qs7,i2]
     have s2:Same H' (upd H' ol (.lst (((as.drop (b + 2)).take seg.length).map V.ref))):=Qaj (Same.refl _) hol
     have tseg:Qb2 a.c_Token H' ((as.drop (b + 2)).take seg.length) seg:=by
      have:=Qg6 seg.length (Qeg (b + 2) tks')
      rw [e2,List.take_left] at this
      exact this
     have fs:=fe.trans Qns
     refine ⟨nm,yb,ol,k,b,_,seg,st,rfl,N.same s2,kok,⟨let ⟨⟨d,h⟩,_⟩:=tkb; ⟨d,s2 _ _ h⟩,tkb.2⟩,Qa3,tseg.same s2,ps,by omega,fun it=>?_,fun it f hf=>?_,fun it hf H2 kp2 N2 kok2=>?_⟩
     ·rw [if_pos it] at fs
      exact k1 _ fs
     ·rw [if_neg (by rw [it];exact Bool.false_ne_true),hf] at fs
      exact k1 _ fs
     ·rw [if_neg (by rw [it];exact Bool.false_ne_true),hf] at fs
      refine ⟨_,rfl,_,_,rfl,rfl,i + 1,Vaarra.learn k st,rest,some (.int i),?_,Nat.le_refl _,kp.trans ((Same.keptN s2).trans kp2),N2.more (by omega),kok2,by rw [e3];exact pt2,fun j q h1 h2=>absurd h2 (by omega),fs,kn⟩
      show [_,_,some (V.int ((i:Int) + 1)),_] = _
      rw [show (i:Int) + 1 = ((i + 1:Nat):Int) by omega]
   ·rw [decide_eq_false h10]
    refine iteF ⟨b,k,rest,_,rfl,by omega,kp,N,kok,ptk,fun j q' h1 h2 h3=>?_,fe,kn⟩
    rcases Nat.lt_or_ge j i with h | h
    ·exact hno j q' h1 h h3
    ·obtain rfl:j = i:=by omega
     rw [hq] at h3
     cases h3
     exact fun z=>h10 ((Qau tk.wf [59] (by decide) (by decide) 10 rfl).mpr z)
  ·obtain ⟨b,k,rest,pv,rfl,hb,kp,N,kok,ptk,hno,fe,kn⟩:=h
   rw [len] at hb hno
   have htl':H' tl = some (.lst (as.map V.ref)):=kp _ _ htl (by intro _ q;cases q)
   have tks':=tks.keptN kp
   cases rest with
   | cons st rest =>
    obtain ⟨jj,seg,m,ts2,e,ps,pt2⟩:=ptk
    have e':T'.drop b = ((st.place,Qcm st) :: (jj, .sign Vaarra.gives) :: seg) ++ (m, .sign [59]) :: ts2:=e
    have at':T'[b + ((st.place,Qcm st) :: (jj,Vaarra.Tok.sign Vaarra.gives) :: seg).length]? = some (m, .sign [59]):=by
     rw [← List.getElem?_drop,e',List.getElem?_append_right (Nat.le_refl _),Nat.sub_self];rfl
    exact absurd rfl (hno _ _ (Nat.le_add_right _ _) (List.getElem?_eq_some_iff.mp at').1 at')
   | nil =>
    obtain ⟨seg,m,e,ps⟩:=ptk
    obtain ⟨dn,dg,di,gk,ik,hn1,_⟩:=id N
    refine ⟨_,rfl,nm,dn,_,rfl,hn1,rfl,_,rfl,_,rfl,_,rfl,tl,_,rfl,SqL.of htl',fun ol hol=>?_⟩
    rw [Qqf]
    have s2:Same H' (upd H' ol (.lst ((as.drop b).map V.ref))):=Qaj (Same.refl _) hol
    have me:Qb0 0 (T'.drop b) = Vaarra.exprMentions false last:=by
     rw [e,ps.men 0 _ (Int.le_refl 0)]
     show Vaarra.exprMentions (decide ((0:Int) < 0)) last ++ [] = _
     rw [List.append_nil];rfl
    have fl:Vaarra.faultIn last stmts {} = Vaarra.nameFault k (Qb0 0 (T'.drop b)):=by rw [me];exact fe
    refine ⟨nm,ol,as.drop b,T'.drop b,k,b,rfl,Qa3,Qb2.same (Qeg b tks') s2,N.same s2,kok,by rw [List.length_drop];omega,fun f hf=>k1 f (by rw [fl];exact hf),fun hf H2 kp2 N2 _=>?_⟩
    rw [me] at N2
    obtain ⟨dx2,dg2,di2,gk2,ik2,g1,g2,g3,g4,g5,g6,g7,g8,g9⟩:=N2
    refine ⟨_,rfl,nm,_,dx2,_,_,rfl,g1,T.cl_Names,T.n_Names_inputs,rfl,di2,_,rfl,g3,fun li hli=>?_⟩
    have k3:=kp.trans ((Same.keptN s2).trans kp2)
    refine k2 (by rw [fl];exact hf) _ li (k3.trans (Same.keptN (Qaj (Same.refl _) hli))) ?_
    rw [Qa3]
    have kn':Vaarra.knownIn stmts {} = k:=kn
    have e1:ik2.map (fun kv=>kV kv.1) = (ik2.map Prod.fst).map kV:=by rw [List.map_map];rfl
    rw [e1,g9,List.map_map]
    show some (HO.lst ((Vaarra.once (k.inputs ++ _)).map _)) = some (HO.lst (insV (Vaarra.once ((Vaarra.knownIn stmts {}).inputs ++ Vaarra.inputsIn (Vaarra.knownIn stmts {}) _))))
    rw [kn'];rfl
end
theorem Qdj:∀ (n i:Nat) (b:List Nat) (T:Vaarra.Toks),b.length ≤ n→toks i b = .ok T→Good T∧T.length ≤ b.length + 1
 | n,i,[],T,_,h=>by
  rw [Qhv] at h
  cases h
  exact ⟨.inl ⟨rfl,rfl⟩,Nat.le_refl _⟩
 | 0,i,c :: r,T,hn,h=>absurd hn (by simp)
 | n + 1,i,c :: r,T,hn,h=>by
  rw [List.length_cons] at hn ⊢
  by_cases hb:Vaarra.blank c = true
  ·rw [Qe0 hb] at h
   obtain ⟨g,l⟩:=Qdj n _ r T (by omega) h
   exact ⟨g,by omega⟩
  by_cases h35:c = 35
  ·subst h35
   rw [Qdk] at h
   have p : 1 ≤ ((35 :: r).takeWhile fun y=>y != 10).length:=tw_pos (by decide)
   have dl:((35 :: r).drop ((35 :: r).takeWhile fun y=>y != 10).length).length ≤ n:=by rw [List.length_drop,List.length_cons];omega
   have dl2:((35 :: r).drop ((35 :: r).takeWhile fun y=>y != 10).length).length ≤ r.length:=by rw [List.length_drop,List.length_cons];omega
   obtain ⟨g,l⟩:=Qdj n _ _ T dl h
   exact ⟨g,by omega⟩
  cases q:Qd2 (c :: r) with
  | none=>rw [Qf1 hb h35 q] at h;cases h
  | some tx =>
   obtain ⟨t,x⟩:=tx
   rw [Qht hb h35 q] at h
   have xl:=Qdl q
   have dl:((c :: r).drop x.length).length ≤ n:=by rw [List.length_drop,List.length_cons];omega
   have dl2:((c :: r).drop x.length).length + x.length = r.length + 1:=by rw [List.length_drop,List.length_cons];have:=xl.2;rw [List.length_cons] at this;omega
   cases hT:toks (i + x.length) ((c :: r).drop x.length) with
   | error e=>rw [hT] at h;cases h
   | ok T1 =>
    rw [hT] at h
    cases h
    obtain ⟨g,l⟩:=Qdj n _ _ T1 dl hT
    refine ⟨.inr ⟨?_,g⟩,by rw [List.length_cons];omega⟩
    have:=Qd4 (.inr ⟨_,q⟩ : Sp' t x)
    rintro (z:t = .fin)
    subst z
    have:x = []:=this
    rw [this] at xl
    exact absurd xl.1 (by decide)
mutual
theorem EAt.keptN {C:Addr} {G G':Hp} (s:Qcb G G'):∀ {e:Vaarra.Expr} {b:Addr},EAt C G e b→EAt C G' e b
 | .nums _,_,h=>by
  obtain ⟨dx,ln,lp,h1,h2,h3⟩:=h
  exact ⟨dx,ln,lp,s _ _ h1 (by intro _ q;cases q),s _ _ h2 (by intro _ q;cases q),s _ _ h3 (by intro _ q;cases q)⟩
 | .name _ _,_,h=>by
  obtain ⟨dx,ln,lp,h1,h2,h3⟩:=h
  exact ⟨dx,ln,lp,s _ _ h1 (by intro _ q;cases q),s _ _ h2 (by intro _ q;cases q),s _ _ h3 (by intro _ q;cases q)⟩
 | .one _ _,_,h=>by
  obtain ⟨dx,ln,lp,bf,be,h1,h2,h3,h4,h5⟩:=h
  exact ⟨dx,ln,lp,bf,be,s _ _ h1 (by intro _ q;cases q),s _ _ h2 (by intro _ q;cases q),s _ _ h3 (by intro _ q;cases q),FAt.keptN s h4,EAt.keptN s h5⟩
 | .two _ _ _,_,h=>by
  obtain ⟨dx,ln,lp,be,bf,bg,h1,h2,h3,h4,h5,h6⟩:=h
  exact ⟨dx,ln,lp,be,bf,bg,s _ _ h1 (by intro _ q;cases q),s _ _ h2 (by intro _ q;cases q),s _ _ h3 (by intro _ q;cases q),EAt.keptN s h4,FAt.keptN s h5,EAt.keptN s h6⟩
theorem FAt.keptN {C:Addr} {G G':Hp} (s:Qcb G G'):∀ {e:Vaarra.Fun} {b:Addr},FAt C G e b→FAt C G' e b
 | .prim _ _,_,h=>by
  obtain ⟨dx,ln,lp,h1,h2,h3⟩:=h
  exact ⟨dx,ln,lp,s _ _ h1 (by intro _ q;cases q),s _ _ h2 (by intro _ q;cases q),s _ _ h3 (by intro _ q;cases q)⟩
 | .given _ _,_,h=>by
  obtain ⟨dx,ln,lp,h1,h2,h3⟩:=h
  exact ⟨dx,ln,lp,s _ _ h1 (by intro _ q;cases q),s _ _ h2 (by intro _ q;cases q),s _ _ h3 (by intro _ q;cases q)⟩
 | .body _ _,_,h=>by
  obtain ⟨dx,ln,lp,be,h1,h2,h3,h4⟩:=h
  exact ⟨dx,ln,lp,be,s _ _ h1 (by intro _ q;cases q),s _ _ h2 (by intro _ q;cases q),s _ _ h3 (by intro _ q;cases q),EAt.keptN s h4⟩
 | .mod _ _,_,h=>by
  obtain ⟨dx,ln,lp,be,h1,h2,h3,h4⟩:=h
  exact ⟨dx,ln,lp,be,s _ _ h1 (by intro _ q;cases q),s _ _ h2 (by intro _ q;cases q),s _ _ h3 (by intro _ q;cases q),FAt.keptN s h4⟩
end
theorem GAt.keptN {C:Addr} {G G':Hp} (s:Qcb G G'):∀ {g:Vaarra.Gift} {b:Addr},GAt C G g b→GAt C G' g b
 | .expr _,_,h=>EAt.keptN s h
 | .fn _,_,h=>FAt.keptN s h
theorem PAt.keptN {a:Ad} {G G':Hp} (k:Qcb G G') {b:Addr} {p:Vaarra.Program} (h:PAt a G p b):PAt a G' p b:=by
 obtain ⟨dx,ls,be,la,li,sts,h1,h2,h3,h4,h5,h6⟩:=h
 refine ⟨dx,ls,be,la,li,sts,k _ _ h1 (by intro _ q;cases q),k _ _ h2 (by intro _ q;cases q),Qav (fun _ _ ⟨dx,bn,h1,h2⟩=>⟨dx,bn,k _ _ h1 (by intro _ q;cases q),h2.keptN k⟩) h3,h4.keptN k,k _ _ h5 (by intro _ q;cases q),k _ _ h6 (by intro _ q;cases q)⟩
theorem StAt.keptN {a:Ad} {G G':Hp} (k:Qcb G G') {b:Addr} {s:Vaarra.Stmt} (h:StAt a G b s):StAt a G' b s:=let ⟨dx,bn,h1,h2⟩:=h; ⟨dx,bn,k _ _ h1 (by intro _ q;cases q),h2.keptN k⟩
section
variable {P : Program} {w : World} {K : PySem.W.Frag} {mg : Str → Option Value} {base : Heap} {a : Ad}
theorem Qrn {tl:Addr} {H:Hp} {F:Addr→Hp→Prop} {E:XK} (h:∀ H' x dx al,H x = none→H al = none→Same H H'→H' x = some (.ins a.c_Reader dx (rf tl al 0))→H' al = some (.lst [])→F x H'):∀ x dx,H x = none→H dx = none→dx ≠ x →
  Qvd a (.ref x :: ([.ref tl] ++ [])) (upd (upd H dx (.own x)) x (.ins a.c_Reader dx [])) (fun v H2=>v = .non∧F x H2) E:=by
 intro x dx hx hd ne
 have k1:Same H (upd (upd H dx (.own x)) x (.ins a.c_Reader dx [])):=fun b o e=>by rw [Qa6 (Qa7 e hx),Qa6 (Qa7 e hd)];exact e
 exact ⟨x,dx,tl,rfl,Qa3,fun H' al e0 e1 e3 e2=>⟨rfl,h H' x dx al hx (k1.free e0) (fun b o e=>e2 b o (k1 b o e) (Qa7 e hx)) e1 e3⟩⟩
def Qsl (K:PySem.W.Frag) (a:Ad):Sp:=fun vs H Q E=>∃ (l:Addr) (bs:List Nat),vs = [.ref l]∧SqL K H l (bs.map fun (n:Nat)=>V.int n)∧match Vaarra.readAt bs with
 | .ok p=>∀ H' y,Qcb H H'→PAt a H' p y→Q (.ref y) H'
 | .error f=>∀ cls d H',EW K a.c_Refused f.kind f.place cls d H'→E cls d H'
theorem Qiw (bs:List Nat):Vaarra.readAt bs = if 2048 < bs.length then .error ⟨1,0⟩ else (Vaarra.tokens bs).bind fun ts=>(Vaarra.program (ts.length + 1) ts).bind fun p=>match Vaarra.faultIn p.1.last p.1.stmts {} with
  | some f=>.error f
  | none=>if 40 < Vaarra.depth p.1 then .error ⟨7,0⟩ else .ok p.1:=rfl
theorem Qx5 (T:Txt K mg a):FnOk P w K mg base (CX1 P w) 99 a.f_qbj a.fd_qbj ["text"] (Qsl K a):=by
 refine T.F_qbj.okX Qsm (fun vs H Q E h=>?_) (fun cdv A outer s H vs Q E hr h=>?_)
 ·obtain ⟨l,bs,rfl,_⟩:=h
  rfl
 ·obtain ⟨l,bs,rfl,hL,res⟩:=h
  have nd:=Qsm.nd
  refine ⟨_,Qa2 (Qb6 (Qac Qg8 (Qbf Qfo (by rfl) T.z_len PySem.boot_len (Qa0 (pv 0) Qa5)) (Qed T.g_LONGEST_TEXT (by rfl)) (Qap _)) (Qa4 (Qg2 rfl Qc7 T.em_LongFault (Qxp T) (hr.mono (by decide)) (by rfl) T.g_LongFault T.B_qad)) Qak)
   (Qa2 (Qao (i:=1) nd rfl (Or.inl rfl) (Qag (Qxt T) (hr.mono (by decide)) rfl T.g_cut T.F_cut.kp T.B_cut .nil Qbq (Qa0 (pv 0) Qa5)))
   (Qa2 (Qao (i:=2) nd rfl (Or.inl rfl) (Qca T.mk_Reader (Qxh T) (hr.mono (by decide)) rfl T.g_Reader T.B_qan .nil Qam (Qa0 (pv 1) Qa5)))
   (Qa2 (Qao (i:=3) nd rfl (Or.inl rfl) (Qay (pv 2) T.cl_Reader T.m_qa (Qep T) hr T.B_qa .nil Qbq))
   (Qa2 (Qao (i:=4) nd rfl (Or.inl rfl) (Qay (pv 2) T.cl_Reader T.m_qp (Qj9 T) (hr.mono (by decide)) T.B_qp .nil Qbq))
   (Qa2 (Qao (i:=5) nd rfl (Or.inl rfl) (Qca T.mk_Program (Qxj T) (hr.mono (by decide)) rfl T.g_Program T.B_qak .nil Qam (Qa0 (pv 3) (Qa0 (pv 4) (Qa0 (Qab (pv 2) (by rfl)) (Qa0 (Qag (Qxc T) (hr.mono (by decide)) rfl T.g_qay T.F_qay.kp T.B_qay .nil Qbq (Qa0 (pv 1) Qa5)) Qa5))))))
   (Qa2 (Qb6 (Qac Qg8 (Qab (pv 5) (by rfl)) (Qed T.g_GREATEST_DEPTH (by rfl)) (Qap _)) (Qa4 (Qg2 rfl Qc7 T.em_DepthFault (ok_qx T) (hr.mono (by decide)) (by rfl) T.g_DepthFault T.B_qx)) Qak)
   (Qa4 (Qae (pv 5))))))))),?_⟩
  have rok:∀ {p},Vaarra.readAt bs = .ok p→∀ H' y,Qcb H H'→PAt a H' p y→Q (.ref y) H':=fun {p} e=>by rw [e] at res;exact res
  have rer:∀ {f},Vaarra.readAt bs = .error f→∀ cls d H',EW K a.c_Refused f.kind f.place cls d H'→E cls d H':=fun {f} e=>by rw [e] at res;exact res
  have re:=Qiw bs
  refine ⟨_,rfl,l,_,rfl, .inl hL,_,_,rfl,rfl,_,rfl,?_⟩
  rw [List.length_map]
  by_cases hlen : 2048 < bs.length
  ·rw [decide_eq_true (show (2048:Int) < (bs.length:Int) by omega)]
   rw [if_pos hlen] at re
   exact iteT (Qgj (Qjq T) (rer re))
  rw [decide_eq_false (show ¬ (2048:Int) < (bs.length:Int) by omega)]
  rw [if_neg hlen] at re
  refine iteF ⟨_,rfl,l,bs,rfl,hL,by omega,?_⟩
  cases hT:Vaarra.tokens bs with
  | error f =>
   rw [hT] at re
   intro f2 cls d H' ew
   refine rer re cls d H' ?_
   rw [f2];exact ew
  | ok T1 =>
   rw [hT] at re
   replace re:Vaarra.readAt bs = (Vaarra.program (T1.length + 1) T1).bind fun p=>match Vaarra.faultIn p.1.last p.1.stmts {} with
    | some f=>.error f
    | none=>if 40 < Vaarra.depth p.1 then .error ⟨7,0⟩ else .ok p.1:=re
   intro H1 tl as sm1 htl0 htl tks
   obtain ⟨g,tlen⟩:=Qdj _ _ _ _ (Nat.le_refl _) (show toks 0 bs = .ok T1 from hT)
   refine ⟨_,rfl,?_⟩
   show ∀ (x dx:Addr),H1 x = none→H1 dx = none→dx ≠ x→_
   refine Qrn (E:=E0) fun H2 r dr al hr0 hal0 sm2 hr2 hal2=>?_
   have R:Rd a H2 r tl al as [] T1 0:=⟨⟨dr,hr2⟩,sm2 _ _ htl,tks.same sm2,by omega,hal2,Qa7 htl hal0⟩
   have KH:∀ {H':Hp},Kept r al H2 H'→Qcb H H':=fun k b o e _=>k _ _ (sm2 _ _ (sm1 _ _ e)) ⟨Qa7 (sm1 _ _ e) hr0,Qa7 (sm1 _ _ e) hal0⟩
   refine ⟨_,rfl,r,dr,_,rfl,hr2,rfl,r,tl,al,as,[],T1,0,rfl,R,Nat.le_refl _,g,?_,?_⟩
   ·rw [List.drop_zero]
    intro f hP
    rw [hP] at re
    exact rer re
   rw [List.drop_zero]
   intro H3 W sts l p' hP g' k3 R3 b3 hl hW hst
   rw [hP] at re
   obtain ⟨d3,hr3⟩:=R3.ob
   refine ⟨_,rfl,r,d3,_,rfl,hr3,rfl,r,tl,al,as,_,T1,p',rfl,R3,b3,g',?_,?_⟩
   ·intro f hL
    rw [hL] at re
    exact rer re
   intro ex ts' hL H4 y p4 k4 R4 ea
   rw [hL] at re hP
   obtain ⟨pr,hpr⟩ : ∃ pr:Vaarra.Program,pr = ⟨l,ex⟩:=⟨_,rfl⟩
   have eadd:addS l { stmts:=[],last:=ex } = pr:=by rw [hpr];unfold addS;simp
   replace hP:Vaarra.program (T1.length + 1) T1 = .ok (pr,ts'):=by rw [hP,← eadd];rfl
   replace re:Vaarra.readAt bs = match Vaarra.faultIn pr.last pr.stmts {} with
    | some f=>.error f
    | none=>if 40 < Vaarra.depth pr then .error ⟨7,0⟩ else .ok pr:=by rw [re,← eadd];rfl
   have ptk:=Qf2 _ g hP
   obtain ⟨d4,hr4⟩:=R4.ob
   refine ⟨_,rfl,_,rfl,_,rfl,r,_,d4,_,_,rfl,hr4,T.cl_Reader,T.n_Reader_atoms,rfl,_,rfl,tl,as,T1,pr.last,pr.stmts,rfl,R4.ls,R4.tk,by omega,ptk,fun f hf=>?_,fun hf H5 li k5 hli=>?_⟩
   ·rw [hf] at re
    exact rer re
   rw [hf] at re
   have hW4:H4 W = some (.lst (sts.map V.ref)):=k4 _ _ (New.get hW).2 (R.far (New.get hW).1)
   have hW5:H5 W = some (.lst (sts.map V.ref)):=k5 _ _ hW4 (by intro _ q;cases q)
   have st5:Paired (StAt a H5) sts pr.stmts:=by
    rw [hpr]
    exact Qav (fun _ _ h=>StAt.keptN k5 (StAt.same (fun b o h=>k4 _ _ (New.get h).2 (R.far (New.get h).1)) h)) hst
   have ea5:EAt a.c_Node H5 pr.last y:=by
    rw [hpr]
    exact EAt.keptN k5 (EAt.same New.sub ea)
   have la5:H5 al = some (.lst (osV (Vaarra.atoms pr))):=by
    have:=k5 _ _ R4.la (by intro _ q;cases q)
    rw [this,hpr];rfl
   show ∀ (x dx:Addr),H5 x = none→H5 dx = none→dx ≠ x→_
   refine Qro (E:=E0) (sts:=sts) (pr:=pr) hW5 (by rw [hpr];exact hl) st5 ea5 fun H6 z dz nz sm6 ho=>?_
   have pat:PAt a H6 pr z:=⟨dz,W,y,al,li,sts,ho,sm6 _ _ hW5,Qav (fun _ _ h=>StAt.same sm6 h) st5,ea5.same sm6,sm6 _ _ la5,sm6 _ _ hli⟩
   have kk:Qcb H H6:=(KH (k3.trans k4)).trans (k5.trans (Same.keptN sm6))
   refine ⟨_,rfl,z,_,dz,_,_,rfl,ho,T.cl_Program,T.n_Program_depth,rfl,_,_,rfl,rfl,_,rfl,?_⟩
   by_cases h40 : 40 < Vaarra.depth pr
   ·rw [decide_eq_true (show (40:Int) < ((Vaarra.depth pr:Nat):Int) by omega)]
    replace re:Vaarra.readAt bs = .error ⟨7,0⟩:=by rw [re];show (if 40 < Vaarra.depth pr then _ else _) = _;rw [if_pos h40]
    exact iteT (Qgj (Qic T) (rer re))
   ·rw [decide_eq_false (show ¬ (40:Int) < ((Vaarra.depth pr:Nat):Int) by omega)]
    replace re:Vaarra.readAt bs = .ok pr:=by rw [re];show (if 40 < Vaarra.depth pr then _ else _) = _;rw [if_neg h40]
    exact iteF ⟨_,rfl,rok re H6 z kk pat⟩
end
end My
end
section
namespace L2
open PySem PySem.Spec PyProof.Rows
open PySem.W (WData Codec OpenSpec Well WellAll ReadsW ReadsAllW)
theorem Qm2 {r:OpenSpec} {k:Nat} {q:Program} {loose:List Str} {XP:(Str→Option Value)→Heap→Prop} {YP:World→Heap→Prop} {d:DefRec} {K:Params→PySem.W.Frag} (CX:World→CXT) {ps:List Str} (sp:PySem.W.Frag→Sp)
  (hwell:r.wellSaid = true) (hdf:d.params.defaults = []) (hlen:r.args.length = ps.length) (hr:Room k callerA)
  (hY:∀ (w:World) (h:Heap),YP w h→(K w.params).In h)
  (F:∀ (w:World) (mg:Str→Option Value) (fa:Addr) (h:Heap),YP w h→(K w.params).In h→h.Ns mainGlobals mg→mg d.name = some (.ref fa) →
   ∃ fd:FuncData,(∀ (s:Shared) (us:List Value),us.length = ps.length→BindsTo s fd ⟨us,[]⟩ (ps.zip us)) ∧
    ∀ base:Heap,(K w.params).In base→base.Ns mainGlobals mg→FnOk r.prog w (K w.params) mg base (CX w) k fa fd ps (sp (K w.params)))
  (hsp:∀ (K:PySem.W.Frag) (H:Hp) (xs:List V) (a:Codec.denoteAll r.args),Qqq H→Codec.withinAll r.args a = true→Codec.app r.args r.asked a = true→Qfr K H xs (Codec.encAll r.args a) →
   sp K xs H (fun v H'=>Dw K H' v (r.ret.enc (Codec.app r.args r.f a))) fun _ _ _=>False)
  (hCX:∀ (w:World) (H:Hp) (s:Shared) (e:Value) (s':Shared),CX w [] H s (fun _ _ _=>False) e s'→False) :
  PySem.W.WalkOS q loose XP YP r d [] (fun f vs=>PySem.call f vs) :=
 Qnz (K:=K) (CX:=CX) (sp:=fun w=>sp (K w.params)) hwell hdf hlen hr hY F (fun w H xs a h1 h2 h3 h4=>hsp (K w.params) H xs a h1 h2 h3 h4) hCX
end L2
end
section
namespace My
open PySem PySem.Spec PyProof.Rows L2
theorem Qs9 {l:List Int} (h:l.all (PySem.W.Codec.inInt 0 255) = true):NeutralIO.bytes l = true∧(VaarraNeutral.text l).map (fun (n:Nat)=>(n:Int)) = l:=by
 rw [List.all_eq_true] at h
 constructor
 ·unfold NeutralIO.bytes
  rw [List.all_eq_true]
  intro z hz
  have:=PySem.W.Codec.inInt_iff.mp (h z hz)
  simp;omega
 ·unfold VaarraNeutral.text
  rw [List.map_map]
  conv=>rhs;rw [← List.map_id l]
  refine List.map_congr_left fun z hz=>?_
  have:=PySem.W.Codec.inInt_iff.mp (h z hz)
  show ((z.toNat:Nat):Int) = z
  omega
theorem Qp0 {X:Cx} {pn:List (Addr × Obj)} {W:Value→Shared→Prop} {EB:XK} (hW:∀ (pins:List (Addr × Obj)) (σ : L2.St) (H:Hp) (s:Shared) (x C dx T:Addr) (fs:List (Str × V)),Inv (X.inTry pn W) pins σ H s→Fly H x C dx (.ref T) fs→EB (.ref C) (some dx) (one dx fs)→W (.ref x) s) :
  Qcr (CX1 X.prog X.w) (X.inTry pn W) EB:=fun pins σ H s e s' I h=>by
 obtain ⟨x,C,dx,T,fs,H',rfl,os,bare,un,hok,F,hE⟩:=h
 exact hW pins σ H' s' x C dx T fs (I.call' (ch:=[]) os un hok bare fun b z=>absurd z (by simp)) F hE
theorem Qxy {x:Str} {g:TG} {tt:TT} {te:TE} {vs:List Nat} {σ : L2.St} {H1:Hp} {D:Addr} {Qd:Hp→Prop} (Pv:Nat→Hp→Prop) (h0:Pv 0 (L2.upd H1 D (.lst [])))
  (hs:∀ i c H,x.cps[i]? = some c→Pv i H→g (.str ⟨#[c]⟩) (wipe σ vs) H fun σ2 H2=>wipe σ2 vs = wipe σ vs∧tt σ2 H2 fun b H3 =>
   if b = true then te σ2 H3 fun y H4=>∃ acc,H4 D = some (.lst acc)∧acc.length < sizeLine∧Pv (i + 1) (L2.upd H4 D (.lst (acc ++ [y]))) else Pv (i + 1) H3) (hd:∀ H,Pv x.cps.size H→Qd H) :
  ∃ W:Nat→Nat→Hp→Prop,(∃ m,W 0 m (L2.upd H1 D (.lst [])))∧∀ i m H,W i m H →
   ((Its x).stop i H∧Qd H) ∨ ((Its x).go i H∧∃ Nx:Hp→Prop,(∀ H',Nx H'→∃ m',m' < m∧W (i + 1) m' H')∧∀ y H',(Its x).yld i H y H'→g y (wipe σ vs) H' fun σ2 H2=>wipe σ2 vs = wipe σ vs∧tt σ2 H2 fun b H3 =>
    if b = true then te σ2 H3 fun y H4=>∃ acc,H4 D = some (.lst acc)∧acc.length < sizeLine∧Nx (L2.upd H4 D (.lst (acc ++ [y]))) else Nx H3):=by
 refine ⟨fun i m H=>m = x.cps.size - i∧i ≤ x.cps.size∧Pv i H,⟨x.cps.size,by simp,Nat.zero_le _,h0⟩,?_⟩
 rintro i m H ⟨rfl,hi,p⟩
 by_cases hlt:i < x.cps.size
 ·refine .inr ⟨hlt,Pv (i + 1),fun H' p'=>⟨x.cps.size - (i + 1),by omega,rfl,hlt,p'⟩,fun y H' q=>?_⟩
  obtain ⟨e,c,hc,rfl⟩:=q
  subst e
  exact hs i c _ hc p
 ·have e:i = x.cps.size:=by omega
  subst e
  exact .inl ⟨Nat.le_refl _,hd H p⟩
theorem Qe6:∀ (f k n:Nat),1 ≤ k→n < 10 ^ k→(Vaarra.digitsOf f n).length ≤ k
 | 0,k,n,_,_=>Nat.zero_le _
 | f + 1,k,n,hk,h=>by
  unfold Vaarra.digitsOf
  by_cases h10:n < 10
  ·rw [if_pos h10];exact hk
  ·rw [if_neg h10,List.length_append,List.length_singleton]
   obtain ⟨k,rfl⟩ : ∃ k',k = k' + 1:=⟨k - 1,by omega⟩
   have : 1 ≤ k:=by
    rcases Nat.eq_zero_or_pos k with q | q
    ·rw [q] at h;exact absurd h (by simpa using h10)
    ·exact q
   have:=Qe6 f k (n / 10) this (by rw [Nat.pow_succ] at h;exact Nat.div_lt_of_lt_mul (by rw [Nat.mul_comm];exact h))
   omega
theorem Qm1 (x:List Nat) (c:Nat):Vaarra.worth (x ++ [c]) = 10 * Vaarra.worth x + (c - 48):=by unfold Vaarra.worth;rw [List.foldl_append];rfl
theorem Qfd:∀ (x:List Nat),(∀ c ∈ x,Vaarra.digit c = true)→Vaarra.worth x.reverse < 10 ^ x.length
 | [],_=>by decide
 | c :: r,h=>by
  rw [List.reverse_cons,Qm1,List.length_cons,Nat.pow_succ]
  have:=Qfd r fun d hd=>h d (List.mem_cons_of_mem _ hd)
  have hc:=(Qcp c).mp (h c List.mem_cons_self)
  omega
theorem Qqs {x:List Nat} (h:∀ c ∈ x,Vaarra.digit c = true):Vaarra.worth x < 10 ^ x.length:=by
 have:=Qfd x.reverse (fun c hc=>h c (List.mem_reverse.mp hc))
 rw [List.reverse_reverse,List.length_reverse] at this
 exact this
def TB:Vaarra.Tok→Prop
 | .num n=>n.natAbs < 10 ^ 19
 | .small s=>s.length ≤ 16
 | .great s=>s.length ≤ 16
 | .mod s=>Vaarra.modWords.contains s = true
 | .sign s=>s.length ≤ 2
 | .fin=>True
theorem Qhy:∀ s ∈ Qbo,s.length ≤ 2:=by decide
theorem tb_of {t:Vaarra.Tok} {x:List Nat} (h:Sp' t x):TB t:=by
 have sp:=Qd4 h
 cases t with
 | num n =>
  obtain ⟨y,_,hl,hd,hx⟩:=sp
  have:=Qqs hd
  have:Vaarra.worth y < 10 ^ 19:=Nat.lt_of_lt_of_le this (Nat.pow_le_pow_right (by decide) hl)
  show n.natAbs < 10 ^ 19
  rcases hx with ⟨_,rfl⟩ | ⟨_,rfl⟩ <;> omega
 | mod s=>exact sp.2
 | sign s=>exact Qhy s sp.2
 | fin=>trivial
 | small s =>
  rcases h with ⟨e,_⟩ | ⟨b,h⟩
  ·cases e
  ·cases b with
   | nil=>cases h
   | cons c r =>
    rw [Qbc] at h
    unfold Qch at h
    split at h
    ·split at h <;> cases h
    split at h
    ·split at h <;> cases h
    split at h
    ·split at h
     ·cases h
     ·rename_i hlen
      split at h
      ·cases h;show List.length _ ≤ 16;omega
      ·cases h
    split at h
    ·split at h <;> cases h
    ·unfold Vaarra.signAt at h
     split at h
     ·cases h
     ·cases h
 | great s =>
  rcases h with ⟨e,_⟩ | ⟨b,h⟩
  ·cases e
  ·cases b with
   | nil=>cases h
   | cons c r =>
    rw [Qbc] at h
    unfold Qch at h
    split at h
    ·split at h <;> cases h
    split at h
    ·split at h <;> cases h
    split at h
    ·split at h
     ·cases h
     ·rename_i hlen
      split at h
      ·cases h
      ·cases h;show List.length _ ≤ 16;omega
    split at h
    ·split at h <;> cases h
    ·unfold Vaarra.signAt at h
     split at h
     ·cases h
     ·cases h
mutual
def NBe:Vaarra.Expr→Prop
 | .nums l=>∀ n ∈ l,n.natAbs < 10 ^ 19
 | .name _ _=>True
 | .one f a=>NBf f∧NBe a
 | .two a f b=>NBe a∧NBf f∧NBe b
def NBf:Vaarra.Fun→Prop
 | .prim _ _=>True
 | .given _ _=>True
 | .body e _=>NBe e
 | .mod m f=>(∀ k,m = .at_ k→k ≤ 5)∧NBf f
end
def PrsL {A:Type} (rd:Vaarra.Read A) (tx:A→List Nat) (nb:A→Prop):Prop:=∀ ts x ts',rd ts = .ok (x,ts')→∃ seg,ts = seg ++ ts'∧((∀ q ∈ seg,TB q.2)→(tx x).length + 10 ≤ 30 * seg.length∧nb x)
theorem Qp9 {n:Int} (h:n.natAbs < 10 ^ 19):(Vaarra.numText n).length ≤ 20:=by
 have:=Qe6 (n.natAbs + 1) 19 n.natAbs (by decide) h
 unfold Vaarra.numText Vaarra.natText
 split
 ·rw [List.length_cons];omega
 ·omega
theorem Qp7 {l:List Int} (h:∀ n ∈ l,n.natAbs < 10 ^ 19):(Vaarra.between [32] (l.map Vaarra.numText)).length ≤ 21 * l.length - 1:=by
 induction l with
 | nil=>exact Nat.zero_le _
 | cons n r ih =>
  have h1:=Qp9 (h n List.mem_cons_self)
  cases r with
  | nil=>show (Vaarra.numText n).length ≤ _;rw [List.length_singleton];omega
  | cons m r =>
   have:=ih fun n hn=>h n (List.mem_cons_of_mem _ hn)
   show (Vaarra.numText n ++ [32] ++ Vaarra.between [32] ((m :: r).map Vaarra.numText)).length ≤ _
   rw [List.length_append,List.length_append,List.length_singleton,List.length_cons]
   rw [List.length_cons] at this ⊢
   omega
theorem Qjc:∀ ts:Vaarra.Toks,∃ seg,ts = seg ++ (Vaarra.numsOf ts).2∧seg.length = (Vaarra.numsOf ts).1.length∧((∀ q ∈ seg,TB q.2)→∀ n ∈ (Vaarra.numsOf ts).1,n.natAbs < 10 ^ 19)
 | []=>⟨[],rfl,rfl,fun _ n hn=>by cases hn⟩
 | q :: r=>by
  by_cases h:kc q.2 = 1
  ·obtain ⟨n,hn⟩:=Qgi.mp h
   obtain ⟨i,t⟩:=q
   obtain rfl:t = .num n:=hn
   obtain ⟨seg,e,l,p⟩:=Qjc r
   refine ⟨(i, .num n) :: seg,?_,?_,fun tb m hm=>?_⟩
   ·rw [Qe1];show (i,Vaarra.Tok.num n) :: r = _;rw [List.cons_append,← e]
   ·rw [Qe1,List.length_cons,List.length_cons,l]
   ·rw [Qe1] at hm
    rcases List.mem_cons.mp hm with rfl | hm
    ·exact tb _ List.mem_cons_self
    ·exact p (fun q hq=>tb q (List.mem_cons_of_mem _ hq)) m hm
  ·rw [Qfu h];exact ⟨[],rfl,rfl,fun _ n hn=>by cases hn⟩
theorem Qde {A:Type} {sub:Vaarra.Read A} {tx:A→List Nat} {nb:A→Prop} {s:List Nat} {ts ts':Vaarra.Toks} {x:A} (hs:PrsL sub tx nb) (h:Qbj sub s ts = .ok (x,ts')):∃ seg i,ts = seg ++ (i, .sign s) :: ts'∧((∀ q ∈ seg,TB q.2)→(tx x).length + 10 ≤ 30 * seg.length∧nb x):=by
 obtain ⟨⟨e,t1⟩,h1,h2⟩:=Qax h
 obtain ⟨⟨u,t2⟩,h3,h4⟩:=Qax h2
 cases h4
 obtain ⟨seg,e1,p1⟩:=hs _ _ _ h1
 obtain ⟨i,e2⟩:=Qfa h3
 exact ⟨seg,i,by rw [e1];congr 1,p1⟩
theorem Qj5 {sub:Vaarra.Read Vaarra.Expr} (hs:PrsL sub Vaarra.exprText NBe):PrsL (Vaarra.operand sub) Vaarra.exprText NBe:=fun ts x ts' h=>by
 cases ts with
 | nil=>cases h
 | cons q r =>
  obtain ⟨i,t⟩:=q
  cases t with
  | num n =>
   replace h:Except.ok (Vaarra.Expr.nums (n :: (Vaarra.numsOf r).1),(Vaarra.numsOf r).2) = Except.ok (x,ts'):=h
   cases h
   obtain ⟨seg,e,l,p⟩:=Qjc r
   refine ⟨(i, .num n) :: seg,by rw [List.cons_append,← e],fun tb=>?_⟩
   have nb:∀ m ∈ n :: (Vaarra.numsOf r).1,m.natAbs < 10 ^ 19:=fun m hm=>by
    rcases List.mem_cons.mp hm with rfl | hm
    ·exact tb _ List.mem_cons_self
    ·exact p (fun q hq=>tb q (List.mem_cons_of_mem _ hq)) m hm
   refine ⟨?_,nb⟩
   have:=Qp7 nb
   rw [List.length_cons] at this
   show (Vaarra.between [32] ((n :: (Vaarra.numsOf r).1).map Vaarra.numText)).length + 10 ≤ _
   rw [List.length_cons,l];omega
  | small s =>
   cases h
   refine ⟨[(i, .small s)],rfl,fun tb=>⟨?_,trivial⟩⟩
   have:s.length ≤ 16:=tb _ List.mem_cons_self
   show s.length + 10 ≤ 30 * 1;omega
  | sign s =>
   replace h:(if s = [40] then Vaarra.closed sub [41] r else Vaarra.wrong ((i, .sign s) :: r)) = .ok (x,ts'):=h
   by_cases q:s = [40]
   ·rw [if_pos q] at h
    subst q
    obtain ⟨seg,j,e,p⟩:=Qde hs (show Qbj sub [41] r = _ from h)
    refine ⟨(i, .sign [40]) :: (seg ++ [(j, .sign [41])]),by rw [e];simp,fun tb=>?_⟩
    obtain ⟨h1,h2⟩:=p fun q hq=>tb q (List.mem_cons_of_mem _ (List.mem_append_left _ hq))
    refine ⟨?_,h2⟩
    rw [List.length_cons,List.length_append];omega
   ·rw [if_neg q] at h;cases h
  | great s=>cases h
  | mod s=>cases h
  | fin=>cases h
theorem Qqj {sub:Vaarra.Read Vaarra.Expr} (hs:PrsL sub Vaarra.exprText NBe):PrsL (Vaarra.atom sub) Vaarra.funText NBf:=fun ts x ts' h=>by
 cases ts with
 | nil=>cases h
 | cons q r =>
  obtain ⟨i,t⟩:=q
  cases t with
  | great s =>
   replace h:Except.ok (if Vaarra.words.contains s = true then Vaarra.Fun.prim s i else .given s i,r) = Except.ok (x,ts'):=h
   cases h
   refine ⟨[(i, .great s)],rfl,fun tb=>?_⟩
   have:s.length ≤ 16:=tb _ List.mem_cons_self
   split
   ·exact ⟨by show s.length + 10 ≤ 30 * 1;omega,trivial⟩
   ·exact ⟨by show s.length + 10 ≤ 30 * 1;omega,trivial⟩
  | sign s =>
   replace h:(if Vaarra.funSigns.contains s then Except.ok (Vaarra.Fun.prim s i,r) else if s = [123] then Vaarra.also (fun e=>.body e i) (Vaarra.closed sub [125] r) else Vaarra.wrong ((i, .sign s) :: r)) = .ok (x,ts'):=h
   by_cases q:Vaarra.funSigns.contains s = true
   ·rw [if_pos q] at h
    cases h
    refine ⟨[(i, .sign s)],rfl,fun tb=>⟨?_,trivial⟩⟩
    have:s.length ≤ 2:=tb _ List.mem_cons_self
    show s.length + 10 ≤ 30 * 1;omega
   ·rw [if_neg q] at h
    by_cases q:s = [123]
    ·rw [if_pos q] at h
     subst q
     obtain ⟨e,h1,rfl⟩:=Qbs h
     obtain ⟨seg,j,e1,p⟩:=Qde hs (show Qbj sub [125] r = _ from h1)
     refine ⟨(i, .sign [123]) :: (seg ++ [(j, .sign [125])]),by rw [e1];simp,fun tb=>?_⟩
     obtain ⟨h1,h2⟩:=p fun q hq=>tb q (List.mem_cons_of_mem _ (List.mem_append_left _ hq))
     refine ⟨?_,h2⟩
     show ([123] ++ Vaarra.exprText e ++ [125]).length + 10 ≤ _
     rw [List.length_append,List.length_append,List.length_singleton,List.length_singleton,List.length_cons,List.length_append];omega
    ·rw [if_neg q] at h;cases h
  | num s=>cases h
  | small s=>cases h
  | mod s=>cases h
  | fin=>cases h
theorem Qyh {k:Nat} (h:k ≤ 5):(Vaarra.natText k).length ≤ 1:=Qe6 (k + 1) 1 k (by decide) (by omega)
theorem Qgf:∀ (n:Nat) (f:Vaarra.Fun) (ts:Vaarra.Toks) (x:Vaarra.Fun) (ts':Vaarra.Toks),Vaarra.mods n f ts = .ok (x,ts')→∃ seg,ts = seg ++ ts'∧(Vaarra.funText x).length ≤ (Vaarra.funText f).length + 30 * seg.length∧(NBf f→NBf x)
 | 0,_,_,_,_,h=>by cases h
 | n + 1,f,ts,x,ts',h=>by
  cases ts with
  | nil=>cases h;exact ⟨[],rfl,Nat.le_add_right _ _,id⟩
  | cons q r =>
   by_cases h4:kc q.2 = 4
   ·obtain ⟨s,hs⟩:=Qpm.mp h4
    obtain ⟨i,t⟩:=q
    obtain rfl:t = .mod s:=hs
    have one:∀ M,(∀ k,M ≠ .at_ k)→(Vaarra.Mod.text M).length ≤ 10→Vaarra.mods n (.mod M f) r = .ok (x,ts')→∃ seg,(i,Vaarra.Tok.mod s) :: r = seg ++ ts'∧(Vaarra.funText x).length ≤ (Vaarra.funText f).length + 30 * seg.length∧(NBf f→NBf x):=fun M hne hl hM=>by
     obtain ⟨seg,e,p,m⟩:=Qgf n _ _ _ _ hM
     refine ⟨(i, .mod s) :: seg,by rw [e];rfl,?_,fun h=>m ⟨fun k e=>absurd e (hne k),h⟩⟩
     have p:(Vaarra.funText x).length ≤ (Vaarra.funText f ++ M.text).length + 30 * seg.length:=p
     rw [List.length_append] at p
     rw [List.length_cons];omega
    unfold Vaarra.mods at h
    dsimp only [Vaarra.next] at h
    split at h
    ·exact one _ (by intro k h;cases h) (by decide) h
    split at h
    ·exact one _ (by intro k h;cases h) (by decide) h
    split at h
    ·exact one _ (by intro k h;cases h) (by decide) h
    split at h
    ·exact one _ (by intro k h;cases h) (by decide) h
    cases r with
    | nil=>cases h
    | cons q2 r2 =>
     obtain ⟨j,t⟩:=q2
     cases t with
     | num k =>
      replace h:(if 0 ≤ k∧k ≤ 5 then Vaarra.mods n (.mod (.at_ k.toNat) f) r2 else Vaarra.wrong ((j, .num k) :: r2)) = .ok (x,ts'):=h
      split at h
      ·rename_i hk
       obtain ⟨seg,e,p,m⟩:=Qgf n _ _ _ _ h
       refine ⟨(i, .mod s) :: (j, .num k) :: seg,by rw [e];rfl,?_,fun h=>m ⟨fun k' e=>by cases e;omega,h⟩⟩
       have p:(Vaarra.funText x).length ≤ (Vaarra.funText f ++ (58 :: (Vaarra.mAt ++ (32 :: Vaarra.natText k.toNat)))).length + 30 * seg.length:=p
       have:=Qyh (k:=k.toNat) (by omega)
       rw [List.length_append,List.length_cons,List.length_append,List.length_cons] at p
       have:Vaarra.mAt.length = 2:=rfl
       rw [List.length_cons,List.length_cons];omega
      ·cases h
     | small s=>cases h
     | great s=>cases h
     | mod s=>cases h
     | sign s=>cases h
     | fin=>cases h
   ·rw [Qkn h4] at h
    cases h
    exact ⟨[],rfl,Nat.le_add_right _ _,id⟩
theorem Qkv {sub:Vaarra.Read Vaarra.Expr} (hs:PrsL sub Vaarra.exprText NBe):PrsL (Vaarra.fn sub) Vaarra.funText NBf:=fun ts x ts' h=>by
 obtain ⟨⟨f,t1⟩,h1,h2⟩:=Qax h
 obtain ⟨s1,e1,p1⟩:=Qqj hs _ _ _ h1
 obtain ⟨s2,e2,p2,m⟩:=Qgf _ _ _ _ _ h2
 refine ⟨s1 ++ s2,by rw [e1,List.append_assoc];congr 1,fun tb=>?_⟩
 obtain ⟨q1,q2⟩:=p1 fun q hq=>tb q (List.mem_append_left _ hq)
 exact ⟨by rw [List.length_append];dsimp only at *;omega,m q2⟩
theorem Qfc {sub:Vaarra.Read Vaarra.Expr} (hs:PrsL sub Vaarra.exprText NBe):∀ n,PrsL (Vaarra.chain sub n) Vaarra.exprText NBe
 | 0=>fun ts x ts' h=>by cases h
 | n + 1=>fun ts x ts' h=>by
  by_cases hb:Vaarra.beginsOperand (Vaarra.next ts) = true
  ·rw [Qgq hb] at h
   obtain ⟨⟨a,t1⟩,h1,h2⟩:=Qax h
   obtain ⟨s1,e1,p1⟩:=Qj5 hs _ _ _ h1
   dsimp only at h2
   by_cases hf:Vaarra.beginsFun (Vaarra.next t1) = true
   ·rw [if_pos hf] at h2
    obtain ⟨⟨f,t2⟩,h3,h4⟩:=Qax h2
    obtain ⟨b,h5,rfl⟩:=Qbs h4
    obtain ⟨s2,e2,p2⟩:=Qkv hs _ _ _ h3
    obtain ⟨s3,e3,p3⟩:=Qfc hs n _ _ _ h5
    refine ⟨s1 ++ s2 ++ s3,?_,fun tb=>?_⟩
    ·dsimp only at e1 e2 e3
     rw [e1,e2,e3];simp
    ·obtain ⟨a1,a2⟩:=p1 fun q hq=>tb q (List.mem_append_left _ (List.mem_append_left _ hq))
     obtain ⟨b1,b2⟩:=p2 fun q hq=>tb q (List.mem_append_left _ (List.mem_append_right _ hq))
     obtain ⟨c1,c2⟩:=p3 fun q hq=>tb q (List.mem_append_right _ hq)
     refine ⟨?_,a2,b2,c2⟩
     show ((if Vaarra.works a = true then [40] ++ Vaarra.exprText a ++ [41] else Vaarra.exprText a) ++ [32] ++ Vaarra.funText f ++ [32] ++ Vaarra.exprText b).length + 10 ≤ _
     rw [List.length_append,List.length_append,List.length_append,List.length_append,List.length_append,List.length_append,List.length_singleton]
     have:(if Vaarra.works a = true then [40] ++ Vaarra.exprText a ++ [41] else Vaarra.exprText a).length ≤ (Vaarra.exprText a).length + 2:=by
      split
      ·rw [List.length_append,List.length_append,List.length_singleton,List.length_singleton];omega
      ·omega
     omega
   ·rw [if_neg hf] at h2
    cases h2
    exact ⟨s1,e1,p1⟩
  ·rw [Qgt (by simpa using hb)] at h
   obtain ⟨⟨f,t2⟩,h3,h4⟩:=Qax h
   obtain ⟨b,h5,rfl⟩:=Qbs h4
   obtain ⟨s2,e2,p2⟩:=Qkv hs _ _ _ h3
   obtain ⟨s3,e3,p3⟩:=Qfc hs n _ _ _ h5
   refine ⟨s2 ++ s3,?_,fun tb=>?_⟩
   ·dsimp only at e2 e3
    rw [e2,e3];simp
   ·obtain ⟨b1,b2⟩:=p2 fun q hq=>tb q (List.mem_append_left _ hq)
    obtain ⟨c1,c2⟩:=p3 fun q hq=>tb q (List.mem_append_right _ hq)
    refine ⟨?_,b2,c2⟩
    show (Vaarra.funText f ++ [32] ++ Vaarra.exprText b).length + 10 ≤ _
    rw [List.length_append,List.length_append,List.length_append,List.length_singleton];omega
theorem Qe4:∀ n,PrsL (Vaarra.level n) Vaarra.exprText NBe
 | 0=>fun ts x ts' h=>by cases h
 | n + 1=>fun ts x ts' h=>Qfc (Qe4 n) _ ts x ts' h
def NBg:Vaarra.Gift→Prop
 | .expr e=>NBe e
 | .fn f=>NBf f
def NBp (p:Vaarra.Program):Prop:=(∀ s ∈ p.stmts,NBg s.gift)∧NBe p.last
theorem Qnb (s:Vaarra.Stmt) (p:Vaarra.Program):Vaarra.plain (addS [s] p) = Vaarra.stmtText s ++ [32] ++ Vaarra.plain p:=by
 unfold Vaarra.plain addS
 show Vaarra.between [32] (Vaarra.stmtText s :: (p.stmts.map Vaarra.stmtText ++ [Vaarra.exprText p.last])) = _
 cases h:(p.stmts.map Vaarra.stmtText ++ [Vaarra.exprText p.last]) with
 | nil=>simp at h
 | cons x r=>rfl
theorem Qo8 {q:Nat × Vaarra.Tok} {ts ts':Vaarra.Toks} {s:Vaarra.Stmt} (h:Qfe q ts = .ok (s,ts')):∃ seg m,ts = seg ++ (m, .sign [59]) :: ts'∧(TB q.2→(∀ q ∈ seg,TB q.2)→(Vaarra.stmtText s).length + 10 ≤ 30 * (seg.length + 3)∧NBg s.gift):=by
 obtain ⟨i,t⟩:=q
 cases t with
 | small x =>
  obtain ⟨e,h1,rfl⟩:=Qbs (Qbm.symm.trans h)
  obtain ⟨seg,m,e1,p⟩:=Qde (Qe4 30) h1
  refine ⟨seg,m,e1,fun tb1 tb=>?_⟩
  obtain ⟨h1,h2⟩:=p tb
  refine ⟨?_,h2⟩
  have tb1:x.length ≤ 16:=tb1
  show (x ++ [32,58,61,32] ++ Vaarra.exprText e ++ [59]).length + 10 ≤ _
  rw [List.length_append,List.length_append,List.length_append]
  show x.length + 4 + (Vaarra.exprText e).length + 1 + 10 ≤ _
  omega
 | great x =>
  obtain ⟨e,h1,rfl⟩:=Qbs (Qbn.symm.trans h)
  obtain ⟨seg,m,e1,p⟩:=Qde (Qkv (Qe4 29)) h1
  refine ⟨seg,m,e1,fun tb1 tb=>?_⟩
  obtain ⟨h1,h2⟩:=p tb
  refine ⟨?_,h2⟩
  have tb1:x.length ≤ 16:=tb1
  show (x ++ [32,58,61,32] ++ Vaarra.funText e ++ [59]).length + 10 ≤ _
  rw [List.length_append,List.length_append,List.length_append]
  show x.length + 4 + (Vaarra.funText e).length + 1 + 10 ≤ _
  omega
 | num x=>cases h
 | mod x=>cases h
 | sign x=>cases h
 | fin=>cases h
theorem Qg3:∀ (n:Nat) {ts ts':Vaarra.Toks} {p:Vaarra.Program},Good ts→(∀ q ∈ ts,TB q.2)→Vaarra.program n ts = .ok (p,ts')→(Vaarra.plain p).length + 5 ≤ 30 * ts.length∧NBp p
 | 0,_,_,_,_,_,h=>by cases h
 | n + 1,ts,ts',p,g,tb,h=>by
  obtain ⟨q,r,rfl⟩:=g.cons
  by_cases hg:(kc q.2 = 2 ∨ kc q.2 = 3)∧Vaarra.next r = .sign Vaarra.gives
  ·have ng:q.2 ≠ .fin:=fun z=>by rw [z] at hg;rcases hg.1 with h | h <;> cases h
   have g1:Good r:=g.tail ng
   obtain ⟨⟨j,q1⟩,ts1,rfl⟩:=g1.cons
   obtain rfl:q1 = .sign Vaarra.gives:=hg.2
   rw [Qdp hg.1] at h
   obtain ⟨⟨s,ts2⟩,h1,h2⟩:=Qax h
   obtain ⟨p',h3,rfl⟩:=Qbs h2
   obtain ⟨_,seg0,m0,e0,ps⟩:=Ql6 h1
   obtain ⟨seg,m,e,bd⟩:=Qo8 h1
   have g2:Good ts1:=g1.tail (by intro h;cases h)
   have g3:Good ts2:=by
    rw [e0] at g2
    exact (Good.behind (fun q hq=>(ps.semi q hq).2) g2).tail (by intro h;cases h)
   have tb1:∀ q ∈ ts1,TB q.2:=fun q hq=>tb q (List.mem_cons_of_mem _ (List.mem_cons_of_mem _ hq))
   have tb2:∀ q ∈ ts2,TB q.2:=fun q hq=>tb1 q (by rw [e];exact List.mem_append_right _ (List.mem_cons_of_mem _ hq))
   obtain ⟨b1,b2⟩:=bd (tb q List.mem_cons_self) fun q hq=>tb1 q (by rw [e];exact List.mem_append_left _ hq)
   obtain ⟨c1,c2,c3⟩:=Qg3 n g3 tb2 h3
   refine ⟨?_,fun s' hs=>?_,c3⟩
   ·rw [Qnb,List.length_append,List.length_append,List.length_singleton,List.length_cons,List.length_cons,e,List.length_append,List.length_cons]
    dsimp only at *
    omega
   ·rcases List.mem_cons.mp (show s' ∈ s :: p'.stmts from hs) with rfl | hs
    ·exact b2
    ·exact c2 s' hs
  ·rw [Qdq hg] at h
   obtain ⟨⟨e,ts1⟩,h1,h2⟩:=Qax h
   obtain ⟨seg,e1,bd⟩:=Qe4 30 _ _ _ h1
   dsimp only at h2
   obtain ⟨b1,b2⟩:=bd fun q hq=>tb q (by rw [e1];exact List.mem_append_left _ hq)
   have le:seg.length ≤ (q :: r).length:=by rw [e1,List.length_append];omega
   by_cases hf:Vaarra.next ts1 = .fin
   ·rw [if_pos hf] at h2
    cases h2
    refine ⟨?_,fun s hs=>(by cases hs),b2⟩
    show (Vaarra.exprText e).length + 5 ≤ _
    omega
   ·rw [if_neg hf] at h2;cases h2
theorem Qq7:∀ (f n:Nat),1 ≤ f→1 ≤ (Vaarra.digitsOf f n).length
 | f + 1,n,_=>by
  unfold Vaarra.digitsOf
  split
  ·exact Nat.le_refl _
  ·rw [List.length_append,List.length_singleton];omega
theorem Qtc (n:Int) : 1 ≤ (Vaarra.numText n).length:=by
 have:=Qq7 (n.natAbs + 1) n.natAbs (by omega)
 unfold Vaarra.numText Vaarra.natText
 split
 ·rw [List.length_cons];omega
 ·exact this
theorem Qp8:∀ l:List Int,l.length ≤ (Vaarra.between [32] (l.map Vaarra.numText)).length
 | []=>Nat.le_refl _
 | [n]=>Qtc n
 | n :: m :: r=>by
  have:=Qp8 (m :: r)
  have h:=Qtc n
  show _ ≤ (Vaarra.numText n ++ [32] ++ Vaarra.between [32] ((m :: r).map Vaarra.numText)).length
  rw [List.length_append,List.length_append,List.length_cons];omega
theorem Qhu:∀ (n i:Nat) (b:List Nat) (T:Vaarra.Toks),b.length ≤ n→toks i b = .ok T→∀ q ∈ T,TB q.2
 | n,i,[],T,_,h=>by
  rw [Qhv] at h
  cases h
  intro q hq
  rw [List.mem_singleton.mp hq];trivial
 | 0,i,c :: r,T,hn,h=>absurd hn (by simp)
 | n + 1,i,c :: r,T,hn,h=>by
  rw [List.length_cons] at hn
  by_cases hb:Vaarra.blank c = true
  ·rw [Qe0 hb] at h
   exact Qhu n _ r T (by omega) h
  by_cases h35:c = 35
  ·subst h35
   rw [Qdk] at h
   have p : 1 ≤ ((35 :: r).takeWhile fun y=>y != 10).length:=tw_pos (by decide)
   have dl:((35 :: r).drop ((35 :: r).takeWhile fun y=>y != 10).length).length ≤ n:=by rw [List.length_drop,List.length_cons];omega
   exact Qhu n _ _ T dl h
  cases q:Qd2 (c :: r) with
  | none=>rw [Qf1 hb h35 q] at h;cases h
  | some tx =>
   obtain ⟨t,x⟩:=tx
   rw [Qht hb h35 q] at h
   have xl:=Qdl q
   have dl:((c :: r).drop x.length).length ≤ n:=by rw [List.length_drop,List.length_cons];omega
   cases hT:toks (i + x.length) ((c :: r).drop x.length) with
   | error e=>rw [hT] at h;cases h
   | ok T1 =>
    rw [hT] at h
    cases h
    intro q' hq'
    rcases List.mem_cons.mp hq' with rfl | hq'
    ·exact tb_of (.inr ⟨_,q⟩ : Sp' t x)
    ·exact Qhu n _ _ T1 dl hT q' hq'
theorem Qin (last:Vaarra.Expr):∀ (l:List Vaarra.Stmt) (ts:Vaarra.Toks),PTk last l ts→l.length ≤ ts.length
 | [],_,_=>Nat.zero_le _
 | s :: r,ts,h=>by
  obtain ⟨j,seg,m,ts2,e,_,h2⟩:=h
  have:=Qin last r ts2 h2
  rw [e,List.length_cons,List.length_cons,List.length_cons,List.length_append,List.length_cons];omega
structure Bnd (p:Vaarra.Program):Prop where
 nb:NBp p
 len:(Vaarra.plain p).length ≤ 100000
 st:p.stmts.length ≤ 2049
 dp:Vaarra.depth p ≤ 40
theorem Qr4 {bs:List Nat} {p:Vaarra.Program} (h:Vaarra.readAt bs = .ok p):Bnd p:=by
 rw [Qiw] at h
 by_cases hl : 2048 < bs.length
 ·rw [if_pos hl] at h;cases h
 rw [if_neg hl] at h
 obtain ⟨T,hT,h⟩:=Qax h
 obtain ⟨⟨pr,ts'⟩,hP,h⟩:=Qax h
 obtain ⟨g,tl⟩:=Qdj _ _ _ _ (Nat.le_refl _) (show toks 0 bs = .ok T from hT)
 have tb:=Qhu _ _ _ _ (Nat.le_refl _) (show toks 0 bs = .ok T from hT)
 obtain ⟨b1,b2⟩:=Qg3 _ g tb hP
 have b3:=Qin _ _ _ (Qf2 _ g hP)
 dsimp only at h
 split at h
 ·cases h
 ·split at h
  ·cases h
  ·cases h
   exact ⟨b2,by omega,by omega,by omega⟩
theorem Qvs {l:List Vaarra.Stmt} {s:Vaarra.Stmt} (h:s ∈ l):Vaarra.giftDepth s.gift ≤ maxl (sds l):=Qi8 (List.mem_map.mpr ⟨s,h,rfl⟩)
theorem Qyd (p:Vaarra.Program):(∀ s ∈ p.stmts,Vaarra.giftDepth s.gift ≤ Vaarra.depth p)∧Vaarra.exprDepth p.last ≤ Vaarra.depth p:=by
 rw [Qlv,Qlk]
 exact ⟨fun s hs=>Nat.le_trans (Qvs hs) (Nat.le_max_right _ _),Nat.le_max_left _ _⟩
mutual
theorem Qi9 (g:Nat→Nat):∀ f:Vaarra.Fun,Vaarra.funText (Vaarra.funNumbered g f) = Vaarra.funText f
 | .prim _ _=>by simp only [Vaarra.funNumbered,Vaarra.funText]
 | .given _ _=>by simp only [Vaarra.funNumbered,Vaarra.funText]
 | .body e _=>by simp only [Vaarra.funNumbered,Vaarra.funText,Qe5 g e]
 | .mod _ f=>by simp only [Vaarra.funNumbered,Vaarra.funText,Qi9 g f]
theorem Qe5 (g:Nat→Nat):∀ e:Vaarra.Expr,Vaarra.exprText (Vaarra.exprNumbered g e) = Vaarra.exprText e
 | .nums _=>by simp only [Vaarra.exprNumbered,Vaarra.exprText]
 | .name _ _=>by simp only [Vaarra.exprNumbered,Vaarra.exprText]
 | .one f a=>by simp only [Vaarra.exprNumbered,Vaarra.exprText,Qi9 g f,Qe5 g a]
 | .two a f b=>by
  have w:Vaarra.works (Vaarra.exprNumbered g a) = Vaarra.works a:=by cases a <;> simp only [Vaarra.exprNumbered,Vaarra.works]
  simp only [Vaarra.exprNumbered,Vaarra.exprText,Qi9 g f,Qe5 g a,Qe5 g b,w]
end
theorem Qrx (g:Nat→Nat) (x:Vaarra.Gift):Vaarra.giftText (Vaarra.giftNumbered g x) = Vaarra.giftText x:=by
 cases x with
 | expr e=>exact Qe5 g e
 | fn f=>exact Qi9 g f
theorem Qow (p:Vaarra.Program):Vaarra.plain (Vaarra.numbered p) = Vaarra.plain p:=by
 unfold Vaarra.plain Vaarra.numbered
 dsimp only
 rw [Qe5,List.map_map]
 congr 2
 refine List.map_congr_left fun s _=>?_
 show s.name ++ [32,58,61,32] ++ Vaarra.giftText (Vaarra.giftNumbered _ s.gift) ++ [59] = s.name ++ [32,58,61,32] ++ Vaarra.giftText s.gift ++ [59]
 rw [Qrx]
def Qk2 (g:Vaarra.Program→Except Nat (List Int)) (bs:List Nat):List Int:=match Vaarra.readAt bs with
 | .error f=>[-(f.kind:Int)]
 | .ok p=>match g p with
  | .error n=>[-(n:Int)]
  | .ok ns=>0 :: ns
def Qob (K:PySem.W.Frag) (a:Ad) (g:Vaarra.Program→Except Nat (List Int)):Sp:=fun vs H Q E=>∃ b p bs,vs = [.ref b]∧PAt a H p b∧Vaarra.readAt bs = .ok p∧match g p with
 | .error n=>∀ cls d H',EW K a.c_Refused n ((0:Nat):Int) cls d H'→E cls d H'
 | .ok ns=>∀ H' y,Qcb H H'→ns.length ≤ 1000000→H' y = some (.lst (ns.map V.int))→Q (.ref y) H'
def spAns (K:PySem.W.Frag) (f:Addr) (g:Vaarra.Program→Except Nat (List Int)):Sp:=fun vs H Q E=>∃ (l:Addr) (bs:List Nat),vs = [.ref l, .ref f]∧SqL K H l (bs.map fun (n:Nat)=>V.int n)∧∀ H' y,((∃ p ns,Vaarra.readAt bs = .ok p∧g p = .ok ns)→Qcb H H')→H' y = some (.lst ((Qk2 g bs).map V.int))→Q (.ref y) H'
section
variable {P : Program} {w : World} {K : PySem.W.Frag} {mg : Str → Option Value} {base : Heap} {a : Ad}
theorem Qx8 (T:Txt K mg a) {f:Addr} {fd:FuncData} {k:Nat} {g:Vaarra.Program→Except Nat (List Int)} (F:FnOk P w K mg base (CX1 P w) k f fd ["program"] (Qob K a g)) (hkp:PySem.W.keepIn K (.ref f) = true) (hb:Qal K fd ["program"] []) (hk:k ≤ 99) :
  FnOk P w K mg base (CX1 P w) 100 a.f_qbe a.fd_qbe ["text", "tell"] (spAns K f g):=by
 refine T.F_qbe.okX Qsp (fun vs H Q E h=>?_) (fun cdv A outer s H vs Q E hr h=>?_)
 ·obtain ⟨l,bs,rfl,_⟩:=h
  rfl
 ·obtain ⟨l,bs,rfl,hL,kq⟩:=h
  have nd:=Qsp.nd
  let EB:XK:=fun cls d H'=>∃ (n p:Nat),Qk2 g bs = [-(n:Int)]∧(¬ ∃ p ns,Vaarra.readAt bs = .ok p∧g p = .ok ns)∧EW K a.c_Refused n p cls d H'
  refine ⟨_,Qa2 (Qwu (EB:=EB) (i:=3) (tb:=tAsg (Qsj 1 f (Qob K a g) [] EB (Qec (Qqw (Qsl K a) [] EB (Qec (tVar 0) tNil)) tNil)) (Qpy 2)) (ts:=tRet (tLst (Qec (tUn (rU fun i=>.int (-i)) (tXF K (tVar 3) "number")) tNil))) ?hb (by rfl) T.g_Refused T.em_Refused.cl rfl nd rfl ?hsu rfl rfl rfl)
   (Qa4 (Qae (Qbl Qt5 (Qc0 (Qa0 Qai Qa5)) (pv 2)))),?_⟩
  case hb=>exact fun pn W hW=>Qa4 (Qao (i:=2) nd rfl (Or.inl rfl) (Qrb (i:=1) F (hr.mono hk) hkp hb .nil (Qp0 hW) (Qa0 (Qag (Qx5 T) hr rfl T.g_qbj T.F_qbj.kp T.B_qbj .nil (Qp0 hW) (Qa0 (pv 0) Qa5)) Qa5)))
  case hsu=>exact fun x=>Qa4 (Qae (Qc0 (Qa0 (Qr8 Ql3 (pe_xf (pv 3) (by rfl))) Qa5)))
  refine ⟨?_,fun σ' H' x C dx T0 fs len F eb=>?_⟩
  ·refine ⟨rfl,_,rfl,l,bs,rfl,hL,?_⟩
   cases hq:Vaarra.readAt bs with
   | error f=>exact fun cls d H' ew=>⟨f.kind,f.place,by unfold Qk2;rw [hq],(fun ⟨p,ns,h1,_⟩=>by rw [hq] at h1;cases h1),ew⟩
   | ok p =>
    intro H1 y k1 pat
    refine ⟨y,p,bs,rfl,pat,hq,?_⟩
    cases hg:g p with
    | error n=>exact fun cls d H' ew=>⟨n,0,by unfold Qk2;rw [hq];show (match g p with | .error n=>_ | .ok ns=>_) = _;rw [hg],(fun ⟨p',ns,h1,h2⟩=>by rw [hq] at h1;cases h1;rw [hg] at h2;cases h2),ew⟩
    | ok ns =>
     intro H2 z k2 hn hz
     refine ⟨(by show 1 ≤ sizeLine;decide),fun l1 hl1=>⟨_,rfl,l1,z,[.int 0],ns.map V.int,rfl,rfl,Qa3,?_,?_,fun q hq2=>kq _ q (fun _=>k1.trans (k2.trans (Same.keptN ((Qaj (Same.refl _) hl1).trans (Qaj (Same.refl _) hq2))))) ?_⟩⟩
     ·rw [Qa6 (Qa7 hz hl1)];exact hz
     ·rw [List.length_map];show 1 + _ ≤ _;exact Nat.le_trans (show 1 + ns.length ≤ 1000001 by omega) (by decide)
     ·rw [Qa3]
      have:Qk2 g bs = 0 :: ns:=by unfold Qk2;rw [hq];show (match g p with | .error n=>_ | .ok ns=>_) = _;rw [hg]
      rw [this];rfl
  ·obtain ⟨n,pl,hf,hno,C',dx',e1,e2,fc,ed⟩:=eb
   cases e1
   cases e2
   have hd:H' dx = some (XD dx (xf n pl)):=by rw [F.dct,← ed];exact Qt6.symm
   have g1:(σ'.set 3 (some (V.ref x)))[3]? = some (some (V.ref x)):=List.getElem?_set_self (by rw [len];show 3 < 4;decide)
   refine ⟨fc.cl,fc.sb,_,g1,x,C,dx,_,_,_,rfl,F.exc,hd,fc.cl,fc.nn,rfl,_,rfl,(by show 1 ≤ sizeLine;decide),fun q hq=>kq _ q (fun h=>absurd h hno) ?_⟩
   rw [Qa3,hf];rfl
end
section
variable {P : Program} {w : World} {K : PySem.W.Frag} {mg : Str → Option Value} {base : Heap} {a : Ad}
theorem ok_qk (T:Txt K mg a):FnOk P w K mg base CX0 2 a.f_qk a.fd_qk ["self"] (spF0 K 8):=by
 refine T.F_qk.ok sc_qk (fun vs H Q E h=>?_) (fun cdv A outer s H vs Q E hr h=>?_)
 ·obtain ⟨x,C,rfl,_⟩:=h
  rfl
 ·obtain ⟨x,C,rfl,h⟩:=h
  refine ⟨_,Qa4 (Qaw (Qfg rfl T.g_Refused T.ub_Refused (Qfi T) hr T.B_qaj Qam (Qa0 (pv 0) (Qa0 Qai (Qa0 Qai Qa5))))),?_⟩
  exact ⟨_,rfl,x,C,8,0,rfl,h⟩
theorem Qfq (T:Txt K mg a):Qdh K a.c_Refused a.c_LongFormFault:=⟨T.em_LongFormFault.cl,T.n_LongFormFault_number,T.n_LongFormFault_position,T.sb_LongFormFault⟩
def spFB (K:PySem.W.Frag) (a:Ad):Sp:=fun vs H Q E=>∃ t:List Nat,vs = [.str (ss t)]∧t.length ≤ 10000000∧(2048 < t.length→∀ cls d H',EW K a.c_Refused 8 0 cls d H'→E cls d H') ∧
 (t.length ≤ 2048→∀ H' y,Same H H'→H' y = some (.lst (t.map fun (c:Nat)=>V.int c))→Q (.ref y) H')
theorem Qxf (T:Txt K mg a):FnOk P w K mg base (CX1 P w) 4 a.f_qap a.fd_qap ["form"] (spFB K a):=by
 refine T.F_qap.okX Qsw (fun vs H Q E h=>?_) (fun cdv A outer s H vs Q E hr h=>?_)
 ·obtain ⟨t,rfl,_⟩:=h
  rfl
 ·obtain ⟨t,rfl,hl,k1,k2⟩:=h
  have nd:=Qsw.nd
  refine ⟨_,Qa2 (Qb6 (Qac Qg8 (Qbf Qb5 (by rfl) T.z_len PySem.boot_len (Qa0 (pv 0) Qa5)) (Qed T.g_LONGEST_FORM (by rfl)) (Qap _)) (Qa4 (Qg2 rfl Qc7 T.em_LongFormFault (ok_qk T) (hr.mono (by decide)) (by rfl) T.g_LongFormFault T.B_qk)) Qak)
   (Qa4 (Qae (Qnc (te:=tCB (fun xs H Q=>∃ x,xs = [V.str x]∧x.length = 1∧Q (V.int (x.cps.getD 0 0:Nat)) H) (Qec (tVar 1) tNil)) (own:=[("sign",1)]) rfl nd (Qww (pv 0)) (Qck (by rfl)) (fun s H C cl fp=>Qci (i:=1) nd rfl (Or.inl rfl)) (fun s H C cl fp=>Qdo)
    (fun s H C cl fp=>Qbf Qs8 (by rfl) T.z_ord PyProof.Rows.boot_ord (Qa0 (pv 1) Qa5))))),?_⟩
  refine ⟨_,rfl,_,rfl,(by rw [Qb1];exact Nat.le_trans hl (by decide)),_,_,rfl,rfl,_,rfl,?_⟩
  rw [Qb1]
  by_cases h2 : 2048 < t.length
  ·rw [decide_eq_true (show (2048:Int) < (t.length:Int) by omega)]
   exact iteT (Qgj (Qfq T) (k1 h2))
  ·rw [decide_eq_false (show ¬ (2048:Int) < (t.length:Int) by omega)]
   refine iteF ⟨_,rfl,_,rfl,fun D hD=>?_⟩
   refine Qxy (x:=ss t) (fun i H'=>H' D = some (.lst ((t.take i).map fun (c:Nat)=>V.int c))∧Same H H') ⟨Qa3,fun b o e=>by rw [Qa6 (Qa7 e hD)];exact e⟩ (fun i c H' hc h=>?_) (fun H3 h=>?_)
   ·have hc:t[i]? = some c:=by simpa using hc
    refine ⟨rfl,⟨_,rfl,_,rfl,rfl,_,h.1,?_,Qa3.trans ?_,Qaj h.2 hD⟩⟩
    ·rw [List.length_map,List.length_take];exact Nat.lt_of_le_of_lt (Nat.min_le_right _ _) (Nat.lt_of_le_of_lt (show t.length ≤ 2048 by omega) (by decide))
    ·rw [List.take_succ,hc];simp
   ·obtain ⟨hD3,sm⟩:=h
    have sz:(ss t).cps.size = t.length:=Qb1 _
    rw [sz,List.take_length] at hD3
    exact k2 (by omega) H3 D sm hD3
end
theorem Qgl:∀ (f n:Nat) (l:List Char),n < f→(Nat.toDigitsCore 10 f n l).map Char.toNat = Vaarra.digitsOf f n ++ l.map Char.toNat
 | 0,n,l,h=>absurd h (Nat.not_lt_zero _)
 | f + 1,n,l,h=>by
  unfold Nat.toDigitsCore Vaarra.digitsOf
  have dc:∀ d,d < 10→(Nat.digitChar d).toNat = 48 + d:=by decide
  by_cases h10:n < 10
  ·rw [if_pos h10]
   have e:n / 10 = 0:=Nat.div_eq_of_lt h10
   simp only [e]
   rw [if_pos trivial,List.map_cons,dc _ (Nat.mod_lt _ (by decide)),Nat.mod_eq_of_lt h10];rfl
  ·rw [if_neg h10]
   have e:n / 10 ≠ 0:=by omega
   simp only
   rw [if_neg e,Qgl f (n / 10) _ (by omega),List.map_cons,dc _ (Nat.mod_lt _ (by decide)),List.append_assoc];rfl
theorem Qne (n:Nat):(Nat.toDigits 10 n).map Char.toNat = Vaarra.natText n:=by
 have:=Qgl (n + 1) n [] (Nat.lt_succ_self n)
 rw [List.map_nil,List.append_nil] at this
 exact this
theorem Qo7 (n:Nat):((toString (n:Int):String):Str) = ss (Vaarra.natText n):=by
 rw [Str.ofString_eq_toList]
 have e:(toString (n:Int):String) = String.ofList (Nat.toDigits 10 n):=rfl
 rw [e,String.toList_ofList,Qne]
theorem Qfj (l:List (List Nat)):Txt.join (" " : Str) (l.map ss) = ss (Vaarra.between [32] l):=by
 apply Qsk
 rw [TL.join_eq,TL.tl_join]
 show TL.joinL [32] _ = Vaarra.between [32] l
 rw [List.map_map]
 have:∀ l:List (List Nat),TL.joinL [32] (l.map (TL.tl ∘ ss)) = Vaarra.between [32] l:=by
  intro l
  induction l with
  | nil=>rfl
  | cons x r ih =>
   cases r with
   | nil=>rfl
   | cons y r =>
    show x ++ ([32] ++ TL.joinL [32] ((y :: r).map (TL.tl ∘ ss))) = x ++ [32] ++ Vaarra.between [32] (y :: r)
    rw [ih,List.append_assoc]
 exact this l
theorem Qtl:bootBuiltins "str" = some (.type "str"):=by decide +kernel
theorem Qte {n:Nat} (h:n < 10 ^ 19):n.log2 < 1920:=by
 rcases Nat.eq_zero_or_pos n with q | q
 ·rw [q];decide
 ·exact (Nat.log2_lt (by omega)).mpr (Nat.lt_of_lt_of_le h (Nat.le_trans (show 10 ^ 19 ≤ 2 ^ 64 by decide) (Nat.pow_le_pow_right (by decide) (by decide))))
section
variable {P : Program} {w : World} {K : PySem.W.Frag} {mg : Str → Option Value} {base : Heap} {a : Ad}
def spPN:Sp:=fun vs H Q _=>∃ n:Int,vs = [.int n]∧n.natAbs < 10 ^ 19∧Q (.str (ss (Vaarra.numText n))) H
theorem Qxq (T:Txt K mg a):FnOk P w K mg base CX0 1 a.f_qac a.fd_qac ["number"] spPN:=by
 refine T.F_qac.ok Qwn (fun vs H Q E h=>?_) (fun cdv A outer s H vs Q E hr h=>?_)
 ·obtain ⟨n,rfl,_⟩:=h
  rfl
 ·obtain ⟨n,rfl,hn,k⟩:=h
  refine ⟨_,Qa4 (Qae (Qd7 (Qac Qnd (pv 0) Qai (Qap _)) (Qbl Qaq Qad (Qcz Qfn (by rfl) T.z_str Qtl (Qa0 (Qr8 Ql3 (pv 0)) Qa5))) (Qcz Qfn (by rfl) T.z_str Qtl (Qa0 (pv 0) Qa5)))),?_⟩
  refine ⟨_,rfl,_,_,rfl,rfl,_,rfl,?_⟩
  by_cases h0:n < 0
  ·rw [decide_eq_true h0]
   refine iteT ⟨_,rfl,_,rfl,_,rfl,by rw [Int.natAbs_neg];exact Qte hn,?_⟩
   have e : -n = ((n.natAbs:Nat):Int):=by omega
   rw [e,Qo7]
   have tl:=Qe6 (n.natAbs + 1) 19 n.natAbs (by decide) hn
   refine ⟨_,_,rfl,rfl,?_,?_⟩
   ·rw [Qb1];show 1 + _ ≤ _;exact Nat.le_trans (show 1 + (Vaarra.natText n.natAbs).length ≤ 20 by unfold Vaarra.natText;omega) (by decide)
   ·rw [show (("_" : Str) ++ ss (Vaarra.natText n.natAbs)) = ss (Vaarra.numText n) by unfold Vaarra.numText;rw [if_pos h0];exact Qc5 [95] _]
    exact k
  ·rw [decide_eq_false h0]
   refine iteF ⟨_,rfl,_,rfl,Qte hn,?_⟩
   have e:n = ((n.natAbs:Nat):Int):=by omega
   rw [show (toString n:String) = toString ((n.natAbs:Nat):Int) by rw [← e],Qo7]
   rw [show Vaarra.numText n = Vaarra.natText n.natAbs by unfold Vaarra.numText;rw [if_neg h0]] at k
   exact k
def spPNs (a:Ad):Sp:=fun vs H Q _=>∃ (ln:Addr) (l:List Int),vs = [.ref ln]∧H ln = some (.lst (l.map V.int))∧(∀ n ∈ l,n.natAbs < 10 ^ 19)∧l.length ≤ 100000∧∀ H',Same H H'→Q (.str (ss (Vaarra.between [32] (l.map Vaarra.numText)))) H'
theorem Qv5 {l:List (List Nat)} {m:Nat} (h:∀ x ∈ l,x.length ≤ m):((l.map ss).map (·.length)).sum ≤ m * l.length:=by
 induction l with
 | nil=>exact Nat.zero_le _
 | cons x r ih =>
  have h1:=h x List.mem_cons_self
  have h2:=ih fun y hy=>h y (List.mem_cons_of_mem _ hy)
  rw [List.map_cons,List.map_cons,List.sum_cons,List.length_cons,Nat.mul_succ,Qb1]
  omega
theorem Qx3 (T:Txt K mg a):FnOk P w K mg base CX0 2 a.f_qv a.fd_qv ["numbers"] (spPNs a):=by
 refine T.F_qv.ok Qvt (fun vs H Q E h=>?_) (fun cdv A outer s H vs Q E hr h=>?_)
 ·obtain ⟨ln,l,rfl,_⟩:=h
  rfl
 ·obtain ⟨ln,l,rfl,hln,hnb,hlen,k⟩:=h
  have nd:=Qvt.nd
  refine ⟨_,Qa4 (Qae (Qke Qad (Qnc (own:=[("number",1)]) rfl nd (Qd6 (pv 0)) (Qck (by rfl)) (fun s H C cl fp=>Qci (i:=1) nd rfl (Or.inl rfl)) (fun s H C cl fp=>Qdo)
    (fun s H C cl fp=>Qag (Qxq T) hr rfl T.g_qac T.F_qac.kp T.B_qac .nil Qam (Qa0 (pv 1) Qa5))))),?_⟩
  refine ⟨⟨_,rfl⟩,_,rfl,ln,rfl,⟨_,SqL.of hln⟩,fun D hD=>?_⟩
  refine Qdu (K:=K) (a:=ln) (xs:=l.map V.int) (fun i H'=>H' D = some (.lst ((l.take i).map fun n=>V.str (ss (Vaarra.numText n))))∧Same H H') ⟨Qa3,fun b o e=>by rw [Qa6 (Qa7 e hD)];exact e⟩ (fun i H' _ h=>SqL.of (h.2 _ _ hln)) (fun i x H' hx h=>?_) (fun H1 h=>?_)
  ·rw [List.getElem?_map] at hx
   obtain ⟨n,hn,rfl⟩:=Option.map_eq_some_iff.mp hx
   refine ⟨rfl,⟨_,rfl,n,rfl,hnb n (List.mem_of_getElem? hn),_,h.1,?_,Qa3.trans ?_,Qaj h.2 hD⟩⟩
   ·rw [List.length_map,List.length_take];exact Nat.lt_of_le_of_lt (Nat.min_le_right _ _) (Nat.lt_of_le_of_lt hlen (by decide))
   ·rw [List.take_succ,hn];simp
  obtain ⟨hD1,sm1⟩:=h
  rw [List.length_map,List.take_length] at hD1
  refine ⟨_,D,(l.map Vaarra.numText).map ss,rfl,rfl, .inl (SqL.of ?_),?_,?_⟩
  ·rw [hD1];simp
  ·have:=Qv5 (l:=l.map Vaarra.numText) (m:=20) (fun x hx=>by obtain ⟨n,hn,rfl⟩:=List.mem_map.mp hx;exact Qp9 (hnb n hn))
   rw [List.length_map] at this
   rw [List.length_map,List.length_map]
   show _ + l.length * 1 ≤ 16777216
   omega
  ·rw [Qfj];exact k H1 sm1
end
theorem edep (e:Vaarra.Expr) : 1 ≤ Vaarra.exprDepth e:=by cases e <;> simp [Vaarra.exprDepth]
theorem fdep (f:Vaarra.Fun) : 1 ≤ Vaarra.funDepth f:=by cases f <;> simp [Vaarra.funDepth]
theorem Qcj {x y:List Nat} (h:x.length + y.length ≤ 16777216):(ss x).length + (ss y).length ≤ sizeLine:=by rw [Qb1,Qb1,sizeLine_eq];exact h
mutual
def NXe:Vaarra.Expr→Prop
 | .nums l=>(∀ n ∈ l,n.natAbs < 10 ^ 19)∧l.length ≤ 100000
 | .name _ _=>True
 | .one f a=>NXf f∧NXe a
 | .two a f b=>NXe a∧NXf f∧NXe b
def NXf:Vaarra.Fun→Prop
 | .prim _ _=>True
 | .given _ _=>True
 | .body e _=>NXe e
 | .mod m f=>(∀ k,m = .at_ k→k ≤ 5)∧NXf f
end
mutual
theorem Qhe:∀ {e:Vaarra.Expr},NBe e→(Vaarra.exprText e).length ≤ 100000→NXe e
 | .nums l,h,hl=>⟨h,Nat.le_trans (Qp8 l) (by simpa only [Vaarra.exprText] using hl)⟩
 | .name _ _,_,_=>trivial
 | .one f a,h,hl=>by
  simp only [Vaarra.exprText,List.length_append] at hl
  exact ⟨Qle h.1 (by omega),Qhe h.2 (by omega)⟩
 | .two a f b,h,hl=>by
  simp only [Vaarra.exprText,List.length_append] at hl
  refine ⟨Qhe h.1 ?_,Qle h.2.1 (by omega),Qhe h.2.2 (by omega)⟩
  split at hl
  ·simp only [List.length_append] at hl;omega
  ·omega
theorem Qle:∀ {f:Vaarra.Fun},NBf f→(Vaarra.funText f).length ≤ 100000→NXf f
 | .prim _ _,_,_=>trivial
 | .given _ _,_,_=>trivial
 | .body e _,h,hl=>by
  simp only [Vaarra.funText,List.length_append] at hl
  exact Qhe h (by omega)
 | .mod m f,h,hl=>by
  simp only [Vaarra.funText,List.length_append] at hl
  exact ⟨h.1,Qle h.2 (by omega)⟩
end
section
variable {P : Program} {w : World} {K : PySem.W.Frag} {mg : Str → Option Value} {base : Heap} {a : Ad}
theorem t_nk (T:Txt K mg a) {σ : L2.St} {H:Hp} {F:Bool→Hp→Prop} {b dx ln lp:Addr} {k wd z:Str} {d:Ms} {c:Bool} (hσ : σ[0]? = some (some (.ref b))) (hb:H b = some (.ins a.c_Node dx (nf k wd ln lp d))) (hc:decide (V.str k = V.str z) = c)
  (h:F c H):Qg0 (tOp rEq (tFld K (tVar 0) "kind") (tC (.str z))) σ H F:=by
 refine ⟨_,hσ,b,_,dx,_,_,rfl,hb,T.cl_Node,T.n_Node_kind,rfl,rfl,_,rfl,?_⟩
 rw [hc];exact h
theorem Qfz (T:Txt K mg a) {σ : L2.St} {H:Hp} {F:VK} {b dx ln lp p:Addr} {k wd:Str} {d:Ms} {ps:List V} {i:Int} (hσ : σ[0]? = some (some (.ref b))) (hb:H b = some (.ins a.c_Node dx (nf k wd ln lp d))) (hp:H lp = some (.lst ps)) (hi:atI ps i = some (.ref p))
  (h:F (.ref p) H):tOp (rIxL K) (tFld K (tVar 0) "parts") (tC (.int i)) σ H F :=
 ⟨_,hσ,b,_,dx,_,_,rfl,hb,T.cl_Node,T.n_Node_parts,rfl,lp,_,_,_,rfl,rfl,SqL.of hp,hi,h⟩
def spP (a:Ad) (d:Nat):Sp:=fun vs H Q _=>∃ b t,vs = [.ref b]∧((∃ e,EAt a.c_Node H e b∧Vaarra.exprDepth e ≤ d∧NXe e∧t = Vaarra.exprText e) ∨ (∃ f,FAt a.c_Node H f b∧Vaarra.funDepth f ≤ d∧NXf f∧t = Vaarra.funText f))∧t.length ≤ 10000000∧∀ H',Same H H'→Q (.str (ss t)) H'
def Qby (e:Vaarra.Expr):List Nat:=if Vaarra.works e then [40] ++ Vaarra.exprText e ++ [41] else Vaarra.exprText e
def spL (a:Ad) (d:Nat):Sp:=fun vs H Q _=>∃ b e,vs = [.ref b]∧EAt a.c_Node H e b∧Vaarra.exprDepth e ≤ d∧NXe e∧(Qby e).length ≤ 10000000∧∀ H',Same H H'→Q (.str (ss (Qby e))) H'
theorem Qxk (T:Txt K mg a) {d k:Nat} (hk : 1 ≤ k) (IH:FnOk P w K mg base CX0 k a.f_qbg a.fd_qbg ["node"] (spP a d)):FnOk P w K mg base CX0 (k + 1) a.f_qai a.fd_qai ["node"] (spL a d):=by
 refine T.F_qai.ok Qwi (fun vs H Q E h=>?_) (fun cdv A outer s H vs Q E hr h=>?_)
 ·obtain ⟨b,e,rfl,_⟩:=h
  rfl
 ·obtain ⟨b,e,rfl,he,hd,nb,hl,kk⟩:=h
  refine ⟨_,Qa2 (Qb6 (Qcs (Qag (Qta T) (hr.mono (by omega)) (by rfl) T.g_qat T.F_qat.kp T.B_qat .nil Qam (Qa0 (pv 0) Qa5)))
    (Qa4 (Qae (Qbl Qaq (Qbl Qaq Qad (Qag IH hr rfl T.g_qbg T.F_qbg.kp T.B_qbg .nil Qam (Qa0 (pv 0) Qa5))) Qad))) Qak)
   (Qa4 (Qae (Qag IH hr rfl T.g_qbg T.F_qbg.kp T.B_qbg .nil Qam (Qa0 (pv 0) Qa5)))),?_⟩
  have yes:Vaarra.works e = true→(Vaarra.exprText e).length ≤ 10000000∧∀ H',Same H H'→∃ i j,V.str (("(" : Str)) = .str i∧V.str (ss (Vaarra.exprText e)) = .str j∧i.length + j.length ≤ sizeLine∧∃ i' j',V.str (i ++ j) = .str i'∧V.str ((")" : Str)) = .str j'∧i'.length + j'.length ≤ sizeLine∧Q (.str (i' ++ j')) H':=fun hw=>by
   have el:Qby e = [40] ++ Vaarra.exprText e ++ [41]:=by unfold Qby;rw [if_pos hw]
   rw [el] at hl kk
   rw [List.length_append,List.length_append] at hl
   have hl : 1 + (Vaarra.exprText e).length + 1 ≤ 10000000:=hl
   refine ⟨by omega,fun H' sm=>⟨_,_,rfl,rfl,Qcj (x:=[40]) (by show 1 + _ ≤ _;omega),_,_,rfl,rfl,?_,?_⟩⟩
   ·rw [show (("(" : Str) ++ ss (Vaarra.exprText e)) = ss ([40] ++ Vaarra.exprText e) from Qc5 [40] _]
    exact Qcj (y:=[41]) (by rw [List.length_append];show 1 + _ + 1 ≤ _;omega)
   ·rw [show (("(" : Str) ++ ss (Vaarra.exprText e)) = ss ([40] ++ Vaarra.exprText e) from Qc5 [40] _,show (ss ([40] ++ Vaarra.exprText e) ++ (")" : Str)) = ss ([40] ++ Vaarra.exprText e ++ [41]) from Qc5 _ [41]]
    exact kk H' sm
  have no:Vaarra.works e = false→(Vaarra.exprText e).length ≤ 10000000∧∀ H',Same H H'→Q (.str (ss (Vaarra.exprText e))) H':=fun hw=>by
   have el:Qby e = Vaarra.exprText e:=by unfold Qby;rw [if_neg (by rw [hw];exact Bool.false_ne_true)]
   rw [el] at hl kk
   exact ⟨hl,kk⟩
  refine ⟨_,rfl,b,_,rfl,he.depth,_,rfl,?_⟩
  show if Vaarra.works e = true then _ else _
  cases hw:Vaarra.works e
  case true =>
   obtain ⟨q1,q2⟩:=yes hw
   exact iteT ⟨_,rfl,b,_,rfl, .inl ⟨_,he,hd,nb,rfl⟩,q1,q2⟩
  case false =>
   obtain ⟨q1,q2⟩:=no hw
   exact iteF ⟨_,rfl,b,_,rfl, .inl ⟨_,he,hd,nb,rfl⟩,q1,q2⟩
end
section
variable {P : Program} {w : World} {K : PySem.W.Frag} {mg : Str → Option Value} {base : Heap} {a : Ad}
def spM (a:Ad) (d:Nat):Sp:=fun vs H Q _=>∃ b M f,vs = [.ref b]∧FAt a.c_Node H (.mod M f) b∧Vaarra.funDepth f ≤ d∧NXf (.mod M f)∧(Vaarra.funText (.mod M f)).length ≤ 10000000∧∀ H',Same H H'→Q (.str (ss (Vaarra.funText (.mod M f)))) H'
theorem ok_qo (T:Txt K mg a) {d k:Nat} (hk : 2 ≤ k) (IH:FnOk P w K mg base CX0 k a.f_qbg a.fd_qbg ["node"] (spP a d)):FnOk P w K mg base CX0 (k + 1) a.f_qo a.fd_qo ["node"] (spM a d):=by
 refine T.F_qo.ok Qvy (fun vs H Q E h=>?_) (fun cdv A outer s H vs Q E hr h=>?_)
 ·obtain ⟨b,M,f,rfl,_⟩:=h
  rfl
 ·obtain ⟨b,M,f,rfl,hf,hd,nb,hl,kk⟩:=h
  have nd:=Qvy.nd
  refine ⟨_,Qa2 (Qao (i:=1) nd rfl (Or.inl rfl) (Qbl Qaq (Qag IH hr rfl T.g_qbg T.F_qbg.kp T.B_qbg .nil Qam (Qa0 (Qcd Qbw (Qab (pv 0) (by rfl)) Qai (fun _ _=>rfl)) Qa5)) (Qab (pv 0) (by rfl))))
   (Qa2 (Qb6 (Qac Qc1 (Qab (pv 0) (by rfl)) Qad (Qap _))
    (Qa4 (Qae (Qbl Qaq (Qbl Qaq (pv 1) Qad) (Qag (Qx3 T) (hr.mono hk) rfl T.g_qv T.F_qv.kp T.B_qv .nil Qam (Qa0 (Qab (pv 0) (by rfl)) Qa5))))) Qak)
   (Qa4 (Qae (pv 1)))),?_⟩
  obtain ⟨dx,ln,lp,bf,h1,h2,h3,h4⟩:=id hf
  have nbf:NXf f:=nb.2
  have te:Vaarra.funText (.mod M f) = Vaarra.funText f ++ M.text:=by simp only [Vaarra.funText]
  rw [te] at hl kk
  rw [List.length_append] at hl
  refine Qfz T rfl h1 h3 rfl ⟨bf,_,rfl, .inr ⟨f,h4,hd,nbf,rfl⟩,by omega,fun H1 sm1=>?_⟩
  refine ⟨_,rfl,b,_,dx,_,_,rfl,sm1 _ _ h1,T.cl_Node,T.n_Node_word,rfl,?_⟩
  have wl:(58 :: modW M).length ≤ 10:=by cases M <;> first | decide | (show 3 ≤ 10;decide)
  refine ⟨_,_,rfl,rfl,Qcj (by omega),?_⟩
  rw [Qc5]
  refine ⟨_,rfl,b,_,dx,_,_,rfl,sm1 _ _ h1,T.cl_Node,T.n_Node_word,rfl,rfl,_,rfl,?_⟩
  rw [Qtk]
  have other:modW M ≠ Vaarra.mAt→M.text = 58 :: modW M→decide (modW M = Vaarra.mAt) = false∧Q (.str (ss (Vaarra.funText f ++ 58 :: modW M))) H1:=fun h1 h2=>by
   rw [h2] at kk
   exact ⟨decide_eq_false h1,kk H1 sm1⟩
  cases M with
  | fold=>obtain ⟨q1,q2⟩:=other (by decide) rfl;rw [q1];exact iteF ⟨_,rfl,q2⟩
  | scan=>obtain ⟨q1,q2⟩:=other (by decide) rfl;rw [q1];exact iteF ⟨_,rfl,q2⟩
  | table=>obtain ⟨q1,q2⟩:=other (by decide) rfl;rw [q1];exact iteF ⟨_,rfl,q2⟩
  | swap=>obtain ⟨q1,q2⟩:=other (by decide) rfl;rw [q1];exact iteF ⟨_,rfl,q2⟩
  | at_ n =>
   rw [show decide (modW (.at_ n) = Vaarra.mAt) = true from rfl]
   have tl:(Vaarra.Mod.text (.at_ n)).length = 4 + (Vaarra.natText n).length:=by
    show (58 :: (Vaarra.mAt ++ (32 :: Vaarra.natText n))).length = _
    rw [List.length_cons,List.length_append,List.length_cons]
    show 2 + ((Vaarra.natText n).length + 1) + 1 = _
    omega
   rw [tl] at hl
   have n5:n ≤ 5:=nb.1 n rfl
   have nt:Vaarra.numText (n:Int) = Vaarra.natText n:=by unfold Vaarra.numText;rw [if_neg (by omega)];rfl
   refine iteT ⟨_,rfl,_,_,rfl,rfl,Qcj (y:=[32]) (by rw [List.length_append];show _ + 3 + 1 ≤ _;omega),?_⟩
   rw [show (ss (Vaarra.funText f ++ 58 :: modW (.at_ n)) ++ (" " : Str)) = ss (Vaarra.funText f ++ 58 :: modW (.at_ n) ++ [32]) from Qc5 _ [32]]
   refine ⟨_,rfl,b,_,dx,_,_,rfl,sm1 _ _ h1,T.cl_Node,T.n_Node_numbers,rfl,ln,[(n:Int)],rfl,sm1 _ _ h2,(fun m hm=>by rw [List.mem_singleton.mp hm];show n < 10 ^ 19;omega),by show 1 ≤ 100000;decide,fun H2 sm2=>?_⟩
   rw [show Vaarra.between [32] ([(n:Int)].map Vaarra.numText) = Vaarra.natText n from nt]
   refine ⟨_,_,rfl,rfl,Qcj (by rw [List.length_append,List.length_append];show _ + 3 + 1 + _ ≤ _;omega),?_⟩
   rw [Qc5]
   have e:Vaarra.funText f ++ 58 :: modW (.at_ n) ++ [32] ++ Vaarra.natText n = Vaarra.funText f ++ Vaarra.Mod.text (.at_ n):=by
    show _ = Vaarra.funText f ++ (58 :: (Vaarra.mAt ++ (32 :: Vaarra.natText n)))
    simp [modW]
   rw [e]
   exact kk H2 (sm1.trans sm2)
theorem Qkk (T:Txt K mg a):FnOk P w K mg base CX0 3 a.f_qbg a.fd_qbg ["node"] (spP a 0):=by
 refine T.F_qbg.ok Qso (fun vs H Q E h=>?_) (fun cdv A outer s H vs Q E hr h=>?_)
 ·obtain ⟨b,t,rfl,_⟩:=h
  rfl
 ·obtain ⟨b,t,rfl,h,_⟩:=h
  rcases h with ⟨e,_,h,_⟩ | ⟨f,_,h,_⟩
  ·have:=edep e;omega
  ·have:=fdep f;omega
theorem Qkj (T:Txt K mg a) {d k:Nat} (hk : 2 ≤ k) (IH:FnOk P w K mg base CX0 k a.f_qbg a.fd_qbg ["node"] (spP a d)):FnOk P w K mg base CX0 (k + 2) a.f_qbg a.fd_qbg ["node"] (spP a (d + 1)):=by
 refine T.F_qbg.ok Qso (fun vs H Q E h=>?_) (fun cdv A outer s H vs Q E hr h=>?_)
 ·obtain ⟨b,t,rfl,_⟩:=h
  rfl
 ·obtain ⟨b,t,rfl,h,hl,kk⟩:=h
  have hr1:=hr.mono (show k ≤ k + 1 by omega)
  refine ⟨_,Qa2 (Qb6 (Qac Qc1 (Qab (pv 0) (by rfl)) Qad (Qap _)) (Qa4 (Qae (Qag (Qx3 T) (hr.mono (by omega)) rfl T.g_qv T.F_qv.kp T.B_qv .nil Qam (Qa0 (Qab (pv 0) (by rfl)) Qa5)))) Qak)
   (Qa2 (Qb6 (Qac Qc1 (Qab (pv 0) (by rfl)) Qad (Qap _)) (Qa4 (Qae (Qbl Qaq (Qbl Qaq (Qag IH hr1 rfl T.g_qbg T.F_qbg.kp T.B_qbg .nil Qam (Qa0 (Qcd Qbw (Qab (pv 0) (by rfl)) Qai (fun _ _=>rfl)) Qa5)) Qad)
     (Qag IH hr1 rfl T.g_qbg T.F_qbg.kp T.B_qbg .nil Qam (Qa0 (Qcd Qbw (Qab (pv 0) (by rfl)) Qai (fun _ _=>rfl)) Qa5))))) Qak)
   (Qa2 (Qb6 (Qac Qc1 (Qab (pv 0) (by rfl)) Qad (Qap _)) (Qa4 (Qae (Qbl Qaq (Qbl Qaq (Qbl Qaq (Qbl Qaq (Qag (Qxk T (by omega) IH) hr rfl T.g_qai T.F_qai.kp T.B_qai .nil Qam (Qa0 (Qcd Qbw (Qab (pv 0) (by rfl)) Qai (fun _ _=>rfl)) Qa5)) Qad)
     (Qag IH hr1 rfl T.g_qbg T.F_qbg.kp T.B_qbg .nil Qam (Qa0 (Qcd Qbw (Qab (pv 0) (by rfl)) Qai (fun _ _=>rfl)) Qa5))) Qad)
     (Qag IH hr1 rfl T.g_qbg T.F_qbg.kp T.B_qbg .nil Qam (Qa0 (Qcd Qbw (Qab (pv 0) (by rfl)) Qai (fun _ _=>rfl)) Qa5))))) Qak)
   (Qa2 (Qb6 (Qac Qc1 (Qab (pv 0) (by rfl)) Qad (Qap _)) (Qa4 (Qae (Qbl Qaq (Qbl Qaq Qad (Qag IH hr1 rfl T.g_qbg T.F_qbg.kp T.B_qbg .nil Qam (Qa0 (Qcd Qbw (Qab (pv 0) (by rfl)) Qai (fun _ _=>rfl)) Qa5))) Qad))) Qak)
   (Qa2 (Qb6 (Qac Qc1 (Qab (pv 0) (by rfl)) Qad (Qap _)) (Qa4 (Qae (Qag (ok_qo T hk IH) hr rfl T.g_qo T.F_qo.kp T.B_qo .nil Qam (Qa0 (pv 0) Qa5)))) Qak)
   (Qa4 (Qae (Qab (pv 0) (by rfl)))))))),?_⟩
  rcases h with ⟨e,he,hd,nb,rfl⟩ | ⟨f,hf,hd,nb,rfl⟩
  ·cases e with
   | nums l =>
    obtain ⟨dx,ln,lp,h1,h2,h3⟩:=id he
    have tx:Vaarra.exprText (.nums l) = Vaarra.between [32] (l.map Vaarra.numText):=by simp only [Vaarra.exprText]
    rw [tx] at hl kk
    refine t_nk T rfl h1 (c:=true) (by decide) (iteT ⟨_,rfl,b,_,dx,_,_,rfl,h1,T.cl_Node,T.n_Node_numbers,rfl,ln,l,rfl,h2,nb.1,nb.2,kk⟩)
   | name x p =>
    obtain ⟨dx,ln,lp,h1,h2,h3⟩:=id he
    have tx:Vaarra.exprText (.name x p) = x:=by simp only [Vaarra.exprText]
    rw [tx] at kk
    exact t_nk T rfl h1 (c:=false) (by decide) (iteF (t_nk T rfl h1 (c:=false) (by decide) (iteF (t_nk T rfl h1 (c:=false) (by decide) (iteF (t_nk T rfl h1 (c:=false) (by decide) (iteF (t_nk T rfl h1 (c:=false) (by decide) (iteF ⟨_,rfl,b,_,dx,_,_,rfl,h1,T.cl_Node,T.n_Node_word,rfl,kk H (Same.refl H)⟩)))))))))
   | one f e =>
    obtain ⟨dx,ln,lp,bf,be,h1,h2,h3,h4,h5⟩:=id he
    have tx:Vaarra.exprText (.one f e) = Vaarra.funText f ++ [32] ++ Vaarra.exprText e:=by simp only [Vaarra.exprText]
    have dd:max (Vaarra.funDepth f) (Vaarra.exprDepth e) + 1 ≤ d + 1:=by simpa only [Vaarra.exprDepth] using hd
    rw [tx] at hl kk
    rw [List.length_append,List.length_append,List.length_singleton] at hl
    refine t_nk T rfl h1 (c:=false) (by decide) (iteF (t_nk T rfl h1 (c:=true) (by decide) (iteT ?_)))
    refine Qfz T rfl h1 h3 rfl ⟨bf,_,rfl, .inr ⟨f,h4,by omega,nb.1,rfl⟩,by omega,fun H1 s1=>?_⟩
    refine ⟨_,_,rfl,rfl,Qcj (y:=[32]) (by show _ + 1 ≤ _;omega),?_⟩
    rw [show (ss (Vaarra.funText f) ++ (" " : Str)) = ss (Vaarra.funText f ++ [32]) from Qc5 _ [32]]
    refine Qfz T rfl (s1 _ _ h1) (s1 _ _ h3) rfl ⟨be,_,rfl, .inl ⟨e,h5.same s1,by omega,nb.2,rfl⟩,by omega,fun H2 s2=>?_⟩
    refine ⟨_,_,rfl,rfl,Qcj (by rw [List.length_append,List.length_singleton];omega),?_⟩
    rw [Qc5]
    exact kk H2 (s1.trans s2)
   | two e f g =>
    obtain ⟨dx,ln,lp,be,bf,bg,h1,h2,h3,h4,h5,h6⟩:=id he
    have tx:Vaarra.exprText (.two e f g) = Qby e ++ [32] ++ Vaarra.funText f ++ [32] ++ Vaarra.exprText g:=by simp only [Vaarra.exprText,Qby]
    have dd:max (Vaarra.exprDepth e) (max (Vaarra.funDepth f) (Vaarra.exprDepth g)) + 1 ≤ d + 1:=by simpa only [Vaarra.exprDepth] using hd
    rw [tx] at hl kk
    rw [List.length_append,List.length_append,List.length_append,List.length_append,List.length_singleton] at hl
    refine t_nk T rfl h1 (c:=false) (by decide) (iteF (t_nk T rfl h1 (c:=false) (by decide) (iteF (t_nk T rfl h1 (c:=true) (by decide) (iteT ?_)))))
    refine Qfz T rfl h1 h3 rfl ⟨be,e,rfl,h4,by omega,nb.1,by omega,fun H1 s1=>?_⟩
    refine ⟨_,_,rfl,rfl,Qcj (y:=[32]) (by show _ + 1 ≤ _;omega),?_⟩
    rw [show (ss (Qby e) ++ (" " : Str)) = ss (Qby e ++ [32]) from Qc5 _ [32]]
    refine Qfz T rfl (s1 _ _ h1) (s1 _ _ h3) rfl ⟨bf,_,rfl, .inr ⟨f,h5.same s1,by omega,nb.2.1,rfl⟩,by omega,fun H2 s2=>?_⟩
    refine ⟨_,_,rfl,rfl,Qcj (by rw [List.length_append,List.length_singleton];omega),?_⟩
    rw [Qc5]
    refine ⟨_,_,rfl,rfl,Qcj (y:=[32]) (by rw [List.length_append,List.length_append,List.length_singleton];show _ + 1 ≤ _;omega),?_⟩
    rw [show (ss (Qby e ++ [32] ++ Vaarra.funText f) ++ (" " : Str)) = ss (Qby e ++ [32] ++ Vaarra.funText f ++ [32]) from Qc5 _ [32]]
    have s12:=s1.trans s2
    refine Qfz T rfl (s12 _ _ h1) (s12 _ _ h3) rfl ⟨bg,_,rfl, .inl ⟨g,h6.same s12,by omega,nb.2.2,rfl⟩,by omega,fun H3 s3=>?_⟩
    refine ⟨_,_,rfl,rfl,Qcj (by rw [List.length_append,List.length_append,List.length_append,List.length_singleton];omega),?_⟩
    rw [Qc5]
    exact kk H3 (s12.trans s3)
  ·cases f with
   | prim x n =>
    obtain ⟨dx,ln,lp,h1,h2,h3⟩:=id hf
    have tx:Vaarra.funText (.prim x n) = x:=by simp only [Vaarra.funText]
    rw [tx] at kk
    exact t_nk T rfl h1 (c:=false) (by decide) (iteF (t_nk T rfl h1 (c:=false) (by decide) (iteF (t_nk T rfl h1 (c:=false) (by decide) (iteF (t_nk T rfl h1 (c:=false) (by decide) (iteF (t_nk T rfl h1 (c:=false) (by decide) (iteF ⟨_,rfl,b,_,dx,_,_,rfl,h1,T.cl_Node,T.n_Node_word,rfl,kk H (Same.refl H)⟩)))))))))
   | given x n =>
    obtain ⟨dx,ln,lp,h1,h2,h3⟩:=id hf
    have tx:Vaarra.funText (.given x n) = x:=by simp only [Vaarra.funText]
    rw [tx] at kk
    exact t_nk T rfl h1 (c:=false) (by decide) (iteF (t_nk T rfl h1 (c:=false) (by decide) (iteF (t_nk T rfl h1 (c:=false) (by decide) (iteF (t_nk T rfl h1 (c:=false) (by decide) (iteF (t_nk T rfl h1 (c:=false) (by decide) (iteF ⟨_,rfl,b,_,dx,_,_,rfl,h1,T.cl_Node,T.n_Node_word,rfl,kk H (Same.refl H)⟩)))))))))
   | body e n =>
    obtain ⟨dx,ln,lp,be,h1,h2,h3,h4⟩:=id hf
    have tx:Vaarra.funText (.body e n) = [123] ++ Vaarra.exprText e ++ [125]:=by simp only [Vaarra.funText]
    have dd:Vaarra.exprDepth e + 1 ≤ d + 1:=by simpa only [Vaarra.funDepth] using hd
    rw [tx] at hl kk
    rw [List.length_append,List.length_append,List.length_singleton,List.length_singleton] at hl
    refine t_nk T rfl h1 (c:=false) (by decide) (iteF (t_nk T rfl h1 (c:=false) (by decide) (iteF (t_nk T rfl h1 (c:=false) (by decide) (iteF (t_nk T rfl h1 (c:=true) (by decide) (iteT ?_)))))))
    refine Qfz T rfl h1 h3 rfl ⟨be,_,rfl, .inl ⟨e,h4,by omega,nb,rfl⟩,by omega,fun H1 s1=>?_⟩
    refine ⟨_,_,rfl,rfl,Qcj (x:=[123]) (by show 1 + _ ≤ _;omega),?_⟩
    rw [show (("{" : Str) ++ ss (Vaarra.exprText e)) = ss ([123] ++ Vaarra.exprText e) from Qc5 [123] _]
    refine ⟨_,_,rfl,rfl,Qcj (y:=[125]) (by rw [List.length_append,List.length_singleton];show _ + 1 ≤ _;omega),?_⟩
    rw [show (ss ([123] ++ Vaarra.exprText e) ++ ("}" : Str)) = ss ([123] ++ Vaarra.exprText e ++ [125]) from Qc5 _ [125]]
    exact kk H1 s1
   | mod M f =>
    obtain ⟨dx,ln,lp,bf,h1,h2,h3,h4⟩:=id hf
    have dd:Vaarra.funDepth f + 1 ≤ d + 1:=by simpa only [Vaarra.funDepth] using hd
    exact t_nk T rfl h1 (c:=false) (by decide) (iteF (t_nk T rfl h1 (c:=false) (by decide) (iteF (t_nk T rfl h1 (c:=false) (by decide) (iteF (t_nk T rfl h1 (c:=false) (by decide) (iteF (t_nk T rfl h1 (c:=true) (by decide) (iteT ⟨_,rfl,b,M,f,rfl,hf,by omega,nb,hl,kk⟩)))))))))
theorem Qp4 (T:Txt K mg a):∀ d,FnOk P w K mg base CX0 (2 * d + 3) a.f_qbg a.fd_qbg ["node"] (spP a d)
 | 0=>Qkk T
 | d + 1=>Qkj T (k:=2 * d + 3) (by omega) (Qp4 T d)
end
theorem Qem {s:List Nat}:∀ {l:List (List Nat)} {x:List Nat},x ∈ l→x.length ≤ (Vaarra.between s l).length
 | [y],x,h=>by rw [List.mem_singleton.mp h];exact Nat.le_refl _
 | y :: z :: r,x,h=>by
  show x.length ≤ (y ++ s ++ Vaarra.between s (z :: r)).length
  rw [List.length_append,List.length_append]
  rcases List.mem_cons.mp h with rfl | h
  ·omega
  ·have:=Qem (s:=s) h;omega
theorem Qgx {s:List Nat}:∀ l:List (List Nat),((l.map ss).map (·.length)).sum ≤ (Vaarra.between s l).length
 | []=>Nat.le_refl _
 | [x]=>by show (ss x).length + 0 ≤ x.length;rw [Qb1];exact Nat.le_refl _
 | x :: y :: r=>by
  have:=Qgx (s:=s) (y :: r)
  show (ss x).length + (((y :: r).map ss).map (·.length)).sum ≤ (x ++ s ++ Vaarra.between s (y :: r)).length
  rw [List.length_append,List.length_append,Qb1];omega
section
variable {P : Program} {w : World} {K : PySem.W.Frag} {mg : Str → Option Value} {base : Heap} {a : Ad}
def spPS (a:Ad):Sp:=fun vs H Q _=>∃ b s,vs = [.ref b]∧StAt a H b s∧Vaarra.giftDepth s.gift ≤ 40∧NBg s.gift∧(Vaarra.stmtText s).length ≤ 100000∧∀ H',Same H H'→Q (.str (ss (Vaarra.stmtText s))) H'
theorem Qpw {H:Hp} {g:Vaarra.Gift} {b:Addr} (h:GAt a.c_Node H g b) (hd:Vaarra.giftDepth g ≤ 40) (nb:NBg g) (hl:(Vaarra.giftText g).length ≤ 100000):((∃ e,EAt a.c_Node H e b∧Vaarra.exprDepth e ≤ 40∧NXe e∧Vaarra.giftText g = Vaarra.exprText e) ∨ (∃ f,FAt a.c_Node H f b∧Vaarra.funDepth f ≤ 40∧NXf f∧Vaarra.giftText g = Vaarra.funText f)):=by
 cases g with
 | expr e=>exact .inl ⟨e,h,hd,Qhe nb hl,rfl⟩
 | fn f=>exact .inr ⟨f,h,hd,Qle nb hl,rfl⟩
theorem ok_qm (T:Txt K mg a):FnOk P w K mg base CX0 84 a.f_qm a.fd_qm ["statement"] (spPS a):=by
 refine T.F_qm.ok sc_qm (fun vs H Q E h=>?_) (fun cdv A outer s H vs Q E hr h=>?_)
 ·obtain ⟨b,st,rfl,_⟩:=h
  rfl
 ·obtain ⟨b,st,rfl,⟨dx,bn,h1,h2⟩,hd,nb,hl,kk⟩:=h
  refine ⟨_,Qa4 (Qae (Qbl Qaq (Qbl Qaq (Qbl Qaq (Qab (pv 0) (by rfl)) Qad) (Qag (Qp4 T 40) hr rfl T.g_qbg T.F_qbg.kp T.B_qbg .nil Qam (Qa0 (Qab (pv 0) (by rfl)) Qa5))) Qad)),?_⟩
  have tx:Vaarra.stmtText st = st.name ++ [32,58,61,32] ++ Vaarra.giftText st.gift ++ [59]:=rfl
  rw [tx] at hl kk
  rw [List.length_append,List.length_append,List.length_append] at hl
  have hl:st.name.length + 4 + (Vaarra.giftText st.gift).length + 1 ≤ 100000:=hl
  refine ⟨_,rfl,b,_,dx,_,_,rfl,h1,T.cl_Statement,T.n_Statement_name,rfl,_,_,rfl,rfl,Qcj (y:=[32,58,61,32]) (by show _ + 4 ≤ _;omega),?_⟩
  rw [show (ss st.name ++ (" := " : Str)) = ss (st.name ++ [32,58,61,32]) from Qc5 _ [32,58,61,32]]
  refine ⟨_,rfl,b,_,dx,_,_,rfl,h1,T.cl_Statement,T.n_Statement_node,rfl,bn,_,rfl,Qpw h2 hd nb (by omega),by omega,fun H1 s1=>?_⟩
  refine ⟨_,_,rfl,rfl,Qcj (by rw [List.length_append];show _ + 4 + _ ≤ _;omega),?_⟩
  rw [Qc5]
  refine ⟨_,_,rfl,rfl,Qcj (y:=[59]) (by rw [List.length_append,List.length_append];show _ + 4 + _ + 1 ≤ _;omega),?_⟩
  rw [show (ss (st.name ++ [32,58,61,32] ++ Vaarra.giftText st.gift) ++ (";" : Str)) = ss (st.name ++ [32,58,61,32] ++ Vaarra.giftText st.gift ++ [59]) from Qc5 _ [59]]
  exact kk H1 s1
def spPP (a:Ad):Sp:=fun vs H Q _=>∃ b p,vs = [.ref b]∧PAt a H p b∧Bnd p∧∀ H',Same H H'→Q (.str (ss (Vaarra.plain p))) H'
theorem ok_qu (T:Txt K mg a):FnOk P w K mg base CX0 85 a.f_qu a.fd_qu ["program"] (spPP a):=by
 refine T.F_qu.ok Qvu (fun vs H Q E h=>?_) (fun cdv A outer s H vs Q E hr h=>?_)
 ·obtain ⟨b,p,rfl,_⟩:=h
  rfl
 ·obtain ⟨b,p,rfl,⟨dx,ls,be,la,li,sts,h1,h2,h3,h4,h5,h6⟩,bnd,kk⟩:=h
  have nd:=Qvu.nd
  refine ⟨_,Qa2 (Qi0 (i:=1) (te:=Qqw (spPS a) [] E0 (Qec (tVar 2) tNil)) (own:=[("statement",2)]) rfl nd rfl rfl (Qk9 rfl rfl rfl rfl) (Qd6 (Qab (pv 0) (by rfl))) (Qck (by rfl)) (fun s H C cl fp=>Qci (i:=2) nd rfl (Or.inl rfl)) (fun s H C cl fp=>Qdo)
    (fun s H C cl fp=>Qag (ok_qm T) hr rfl T.g_qm T.F_qm.kp T.B_qm .nil Qam (Qa0 (pv 2) Qa5)))
   (Qa2 (Qaw (Qj1 PySem.F.plainAttrs_list PySem.F.slot_list_append PySem.F.type_list_append Qcn (pv 1) (Qa0 (Qag (Qp4 T 40) (hr.mono (by decide)) rfl T.g_qbg T.F_qbg.kp T.B_qbg .nil Qam (Qa0 (Qab (pv 0) (by rfl)) Qa5)) Qa5)))
   (Qa4 (Qae (Qke Qad (pv 1))))),?_⟩
  obtain ⟨dl1,dl2⟩:=Qyd p
  have dp:=bnd.dp
  have len:=Qbi h3
  have stl:=bnd.st
  have pl:(Vaarra.plain p).length ≤ 100000:=bnd.len
  have memS:∀ s ∈ p.stmts,(Vaarra.stmtText s).length ≤ 100000:=fun s hs=>Nat.le_trans (Qem (s:=[32]) (l:=p.stmts.map Vaarra.stmtText ++ [Vaarra.exprText p.last]) (List.mem_append_left _ (List.mem_map.mpr ⟨s,hs,rfl⟩))) pl
  have memE:(Vaarra.exprText p.last).length ≤ 100000:=Nat.le_trans (Qem (s:=[32]) (l:=p.stmts.map Vaarra.stmtText ++ [Vaarra.exprText p.last]) (List.mem_append_right _ (List.mem_singleton.mpr rfl))) pl
  refine ⟨_,rfl,b,_,dx,_,_,rfl,h1,T.cl_Program,T.n_Program_statements,rfl,ls,rfl,⟨_,SqL.of h2⟩,fun D hD=>?_⟩
  refine Qdu (K:=K) (a:=ls) (xs:=sts.map V.ref) (fun i H'=>H' D = some (.lst (((p.stmts.take i).map Vaarra.stmtText).map fun x=>V.str (ss x)))∧Same H H') ⟨Qa3,fun b o e=>by rw [Qa6 (Qa7 e hD)];exact e⟩ (fun i H' _ h=>SqL.of (h.2 _ _ h2)) (fun i v H' hv h=>?_) (fun H5 h=>?_)
  ·rw [List.getElem?_map] at hv
   obtain ⟨y,hy,rfl⟩:=Option.map_eq_some_iff.mp hv
   obtain ⟨st,hst,sa⟩:=Qbt h3 hy
   have ms:=List.mem_of_getElem? hst
   have sa':=StAt.same h.2 sa
   refine ⟨rfl,⟨_,rfl,y,st,rfl,sa',Nat.le_trans (dl1 st ms) dp,bnd.nb.1 st ms,memS st ms,fun H2 s2=>⟨_,s2 _ _ h.1,?_,Qa3.trans ?_,Qaj (h.2.trans s2) hD⟩⟩⟩
   ·rw [List.length_map,List.length_map,List.length_take];exact Nat.lt_of_le_of_lt (Nat.min_le_right _ _) (Nat.lt_of_le_of_lt stl (by decide))
   ·rw [List.take_succ,hst];simp
  obtain ⟨hD5,sm⟩:=h
  rw [List.length_map,len,List.take_length] at hD5
  refine ⟨_,rfl, .inl ⟨rfl,_,SqL.of hD5⟩,_,rfl,b,_,dx,_,_,rfl,sm _ _ h1,T.cl_Program,T.n_Program_expression,rfl,be,_,rfl, .inl ⟨p.last,h4.same sm,Nat.le_trans dl2 dp,Qhe bnd.nb.2 memE,rfl⟩,Nat.le_trans memE (by decide),fun H6 s6=>?_⟩
  refine ⟨D,_,_,rfl,rfl,s6 _ _ hD5,?_,?_⟩
  ·rw [List.length_map,List.length_map];exact Nat.lt_of_le_of_lt stl (by decide)
  refine ⟨⟨_,rfl⟩,_,rfl,_,D,(p.stmts.map Vaarra.stmtText ++ [Vaarra.exprText p.last]).map ss,rfl,rfl, .inl (SqL.of ?_),?_,?_⟩
  ·rw [Qa3];simp
  ·have:=Qgx (s:=[32]) (p.stmts.map Vaarra.stmtText ++ [Vaarra.exprText p.last])
   have pl':(Vaarra.between [32] (p.stmts.map Vaarra.stmtText ++ [Vaarra.exprText p.last])).length ≤ 100000:=pl
   rw [List.length_map,List.length_append,List.length_map,List.length_singleton]
   show _ + (p.stmts.length + 1) * 1 ≤ 16777216
   omega
  ·rw [Qfj]
   exact kk _ (Qaj (sm.trans s6) hD)
end
def Qg4 (bs:List Nat):List Int:=match Vaarra.readAt bs with
 | .error e=>[-(e.kind:Int)]
 | .ok p=>if 2048 < (Vaarra.plain p).length then [-8] else 0 :: (Vaarra.plain p).map Int.ofNat
theorem Qr7 {l:List Int} (h:NeutralIO.bytes l = true):PyVaarra.plain l = Qg4 (VaarraNeutral.text l):=by
 have e:VaarraNeutral.callOf [[0],l] = some (.plain (VaarraNeutral.text l)):=by
  show (if NeutralIO.bytes l = true then some (Vaarra.Call.plain (VaarraNeutral.text l)) else none) = _
  rw [if_pos h]
 unfold PyVaarra.plain VaarraNeutral.step
 rw [e]
 show VaarraNeutral.encode (Vaarra.ofRead (Vaarra.read (VaarraNeutral.text l)) fun p=>if Vaarra.MOST < (Vaarra.plain p).length then Vaarra.refused (-8) else Vaarra.textAnswer (Vaarra.plain p)) = _
 unfold Qg4 Vaarra.read
 cases Vaarra.readAt (VaarraNeutral.text l) with
 | error e=>rfl
 | ok p =>
  show VaarraNeutral.encode (if 2048 < (Vaarra.plain (Vaarra.numbered p)).length then Vaarra.refused (-8) else Vaarra.textAnswer (Vaarra.plain (Vaarra.numbered p))) = (if 2048 < (Vaarra.plain p).length then _ else _)
  rw [Qow]
  split <;> rfl
section
variable {P : Program} {w : World} {K : PySem.W.Frag} {mg : Str → Option Value} {base : Heap} {a : Ad}
def Qhj (p:Vaarra.Program):Except Nat (List Int):=if 2048 < (Vaarra.plain p).length then .error 8 else .ok ((Vaarra.plain p).map Int.ofNat)
theorem Qkb (bs:List Nat):Qg4 bs = Qk2 Qhj bs:=by
 unfold Qg4 Qk2
 cases Vaarra.readAt bs with
 | error f=>rfl
 | ok p =>
  show (if 2048 < (Vaarra.plain p).length then [-8] else 0 :: (Vaarra.plain p).map Int.ofNat) = (match Qhj p with | .error n=>[-(n:Int)] | .ok ns=>0 :: ns)
  unfold Qhj
  split <;> rfl
theorem Qxg (T:Txt K mg a):FnOk P w K mg base (CX1 P w) 86 a.f_qao a.fd_qao ["program"] (Qob K a Qhj):=by
 refine T.F_qao.okX Qwf (fun vs H Q E h=>?_) (fun cdv A outer s H vs Q E hr h=>?_)
 ·obtain ⟨b,p,bs,rfl,_⟩:=h
  rfl
 ·obtain ⟨b,p,bs,rfl,pat,hrd,kk⟩:=h
  have bnd:=Qr4 hrd
  have ln:=bnd.len
  refine ⟨_,Qa4 (Qae (Qag (Qxf T) (hr.mono (by decide)) rfl T.g_qap T.F_qap.kp T.B_qap .nil Qbq (Qa0 (Qag (ok_qu T) hr rfl T.g_qu T.F_qu.kp T.B_qu .nil Qam (Qa0 (pv 0) Qa5)) Qa5))),?_⟩
  refine ⟨_,rfl,b,p,rfl,pat,bnd,fun H1 s1=>⟨Vaarra.plain p,rfl,by omega,fun h2=>?_,fun h2 H2 y s2 hy=>?_⟩⟩
  ·unfold Qhj at kk
   rw [if_pos h2] at kk
   exact kk
  ·unfold Qhj at kk
   rw [if_neg (by omega)] at kk
   refine kk H2 y (Same.keptN (s1.trans s2)) (by rw [List.length_map];omega) ?_
   rw [hy,List.map_map];rfl
def Qod (K:PySem.W.Frag):Sp:=fun vs H Q E=>∃ (l:Addr) (bs:List Nat),vs = [.ref l]∧SqL K H l (bs.map fun (n:Nat)=>V.int n)∧∀ H' y,H' y = some (.lst ((Qg4 bs).map V.int))→Q (.ref y) H'
theorem Qx6 (T:Txt K mg a):FnOk P w K mg base (CX1 P w) 101 a.f_qbi a.fd_qbi ["text"] (Qod K):=by
 refine T.F_qbi.okX Qw6 (fun vs H Q E h=>?_) (fun cdv A outer s H vs Q E hr h=>?_)
 ·obtain ⟨l,bs,rfl,_⟩:=h
  rfl
 ·obtain ⟨l,bs,rfl,hL,k⟩:=h
  refine ⟨_,Qa4 (Qae (Qag (Qx8 T (Qxg T) T.F_qao.kp T.B_qao (by decide)) hr rfl T.g_qbe T.F_qbe.kp T.B_qbe .nil Qbq (Qa0 (pv 0) (Qa0 (Qbp (v:=.ref a.f_qao) (by rfl) T.g_qao rfl) Qa5)))),?_⟩
  refine ⟨_,rfl,l,bs,rfl,hL,fun H' y _ hy=>k H' y ?_⟩
  rw [Qkb];exact hy
end
end My
end
section
open PySem PySem.W PyProof.Rows
theorem My.text_at {K:PySem.W.Frag} {H:L2.Hp} {l:Addr} {bs:List Int} (hm:(VaarraNeutral.text bs).map (fun (n:Nat)=>(n:Int)) = bs) (hs:L2.SqL K H l (bs.map L2.V.int)):L2.SqL K H l ((VaarraNeutral.text bs).map fun (n:Nat)=>L2.V.int n):=by
 have:((VaarraNeutral.text bs).map fun (n:Nat)=>L2.V.int n) = bs.map L2.V.int:=by
  conv=>rhs;rw [← hm]
  rw [List.map_map];rfl
 rw [this];exact hs
set_option maxRecDepth 100000 in
set_option maxHeartbeats 0 in
theorem PySem.Challenge.cw_arraytexts_s01_plain_holds : PySem.Challenge.rw_arraytexts_s01_plain.Holds := by
 w_on;k_headS; (case hw=>exact ⟨[.list []],by decide +kernel,by decide +kernel⟩)
 k_fillS
 refine L2.Qm2 (r:=PySem.Challenge.rw_arraytexts_s01_plain) (k:=101) (ps:=["text"]) (fun w=>L2.CX1 PySem.Challenge.rw_arraytexts_s01_plain.prog w) My.Qod (by decide +kernel) rfl rfl ⟨rfl,by decide,by decide⟩ (fun w h Y=>PySem.W.kIn_of Y) ?F ?S ?C
 case F =>
  intro w mg fa h Y KX G hmg
  have T:∃ a:My.Ad,a.wd = w∧My.Txt (L2.KOf KX) mg a:=by
   dsimp only [L2.KOf]
   apply My.Qo2 KX G w
   all_goals first | k_is | kernel_rfl
  obtain ⟨a,hw,T⟩:=T
  have e:=hmg.symm.trans T.g_qbi
  cases e
  obtain ⟨oc,od,kV,doc,pm,an,cdv,ct,osl,hfd,lk,hcd⟩:=T.F_qbi.ex
  refine ⟨a.fd_qbi,fun s us hu=>?_,fun base _ _=>My.Qx6 T⟩
  rw [hfd]
  exact match us,hu with | [_],_=>.of_eq rfl
 case S =>
  intro K H xs a hO hwi hask hx
  cases hx with
  | cons h1 h2 =>
   cases h2
   cases h1 with
   | lst hs ha =>
    have e:=L2.Qps a.1 _ ha
    subst e
    have q:((Codec.inLen 0 4096 a.1 && a.1.all (Codec.inInt 0 255)) && true) = true:=hwi
    rw [Bool.and_eq_true,Bool.and_eq_true] at q
    obtain ⟨hb,hm⟩:=My.Qs9 q.1.2
    refine ⟨_,VaarraNeutral.text a.1,rfl,My.text_at hm hs,fun H' p hp=>?_⟩
    rw [← My.Qr7 hb] at hp
    exact .lst (L2.SqL.of hp) (L2.Qq6 _)
 case C =>
  intro w H s e s' h
  obtain ⟨_,_,_,_,_,_,_,_,_,_,_,_,hE⟩:=h
  exact hE
#print axioms PySem.Challenge.cw_arraytexts_s01_plain_holds
end
