import PyProof.Rows.All
import Wide.All
import OpenK.AllK
import Wide.FinOn
import Lean
import PyProof.EqAt
import PyProof.EqKinds
import PyProof.TupleCall
import PySem.Challenge.RW_ballastway_k28_the_least_entry
set_option compiler.extract_closed false
set_option Elab.async false
set_option linter.all false
set_option maxRecDepth 100000
namespace L2
open PySem PySem.Spec PyProof.Rows
abbrev Key:=Sum Int Str
def mV:Key→Value→Bool
 | .inl k,v=>Value.isInt k v
 | .inr x,v=>Value.isStrOf x v
def DZ(w:World):Key→Int
 | .inl k=>hashInt k
 | .inr x=>hashStr w x
theorem ck:∀{k:Key} {v:Value},mV k v=true→(∃i t,k=Sum.inl i∧v=Value.int i t)∨(∃x t,k=Sum.inr x∧v=Value.str x t)
 | .inl i,v,h=>by
   obtain⟨t,e⟩:=Value.isInt_shape (k:=i) (v:=v) h
   exact .inl ⟨i,t,rfl,e⟩
 | .inr x,v,h=>by
   obtain⟨t,e⟩:=Value.isStrOf_shape (x:=x) (v:=v) h
   exact .inr ⟨x,t,rfl,e⟩
theorem vH(i:Int)(t:Tok):mV (.inl i) (.int i t)=true:=by simp[mV,Value.isInt]
theorem vI(x:Str)(t:Tok):mV (.inr x) (.str x t)=true:=by simp[mV,Value.isStrOf]
theorem AI(a b:Int):decide ((Sum.inl a:Key)=Sum.inl b)=(a==b):=by
 by_cases e:a=b
 · subst e;simp
 · have h:¬(Sum.inl a:Key)=Sum.inl b:=fun q=>e (Sum.inl.inj q)
   rw[decide_eq_false h]
   exact(beq_eq_false_iff_ne.mpr e).symm
theorem AJ(a b:Str):decide ((Sum.inr a:Key)=Sum.inr b)=decide (a=b):=by
 by_cases e:a=b
 · subst e;simp
 · have h:¬(Sum.inr a:Key)=Sum.inr b:=fun q=>e (Sum.inr.inj q)
   rw[decide_eq_false h,decide_eq_false e]
theorem AK(a:Int)(b:Str):decide ((Sum.inl a:Key)=Sum.inr b)=false:=decide_eq_false (fun q=>nomatch q)
theorem AL(a:Str)(b:Int):decide ((Sum.inr a:Key)=Sum.inl b)=false:=decide_eq_false (fun q=>nomatch q)
def cB(prog:Program)(w:World):PySem.KeyKind prog w Key where
 is:=mV
 hash:=DZ w
 inj:=fun v a b ha hb=>by
  rcases ck ha with⟨i,t,rfl,rfl⟩|⟨x,t,rfl,rfl⟩
  · rcases ck hb with⟨j,u,rfl,e⟩|⟨y,u,rfl,e⟩
    · injection e with e1 _;rw[e1]
    · exact nomatch e
  · rcases ck hb with⟨j,u,rfl,e⟩|⟨y,u,rfl,e⟩
    · exact nomatch e
    · injection e with e1 _;rw[e1]
 byValue:=fun k v h=>by
  rcases ck h with⟨i,t,rfl,rfl⟩|⟨x,t,rfl,rfl⟩<;>rfl
 pyHash:=fun hv h=>by
  rcases ck hv with⟨i,t,rfl,rfl⟩|⟨x,t,rfl,rfl⟩
  · exact wpAny_pyHash_int h
  · exact wpAny_pyHash_str h
 eqBool:=fun hu hv h=>by
  rcases ck hu with⟨i,t,rfl,rfl⟩|⟨x,t,rfl,rfl⟩
  · rcases ck hv with⟨j,u,rfl,rfl⟩|⟨y,u,rfl,rfl⟩
    · rw[AI] at h;exact wpAny_eqBool_int h
    · rw[AK] at h;exact SeqAt.EqAt.int_str i t y u _ _ _ _ h
  · rcases ck hv with⟨j,u,rfl,rfl⟩|⟨y,u,rfl,rfl⟩
    · rw[AL] at h;exact SeqAt.EqAt.str_int x t j u _ _ _ _ h
    · rw[AJ] at h;exact wpAny_eqBool_str h
 «strs»:=fun k x t v h=>by
  rcases ck h with⟨i,u,rfl,e⟩|⟨y,u,rfl,e⟩
  · exact nomatch e
  · injection e with e1 _
    subst e1
    cases v<;>rfl
theorem sQ(prog:Program)(w:World)(k:Key)(v:Value):(cB prog w).is k v=mV k v:=rfl
theorem qM(prog:Program)(w:World)(i:Int)(t:Tok):(cB prog w).is (.inl i) (.int i t)=true:=vH i t
theorem qN(prog:Program)(w:World)(x:Str)(t:Tok):(cB prog w).is (.inr x) (.str x t)=true:=vI x t
end L2
namespace L2
open PySem PySem.Spec PyProof.Rows
inductive V where
 |non|bl (b:Bool)|int (i:Int)|str (x:Str)|byt (b:Array UInt8)|flt (b:UInt64)|ref (a:Addr)|ty (n:String)
 deriving DecidableEq
def RelV:V→Value→Prop
 | .non,u=>u=Value.none
 | .bl b,u=>u=Value.bool b
 | .int i,u=>∃t,u=Value.int i t
 | .str x,u=>∃t,u=Value.str x t
 | .byt b,u=>∃t,u=Value.bytes b t
 | .flt b,u=>∃t,u=Value.float b t
 | .ref a,u=>u=Value.ref a
 | .ty n,u=>u=Value.type n
abbrev Vals:List V→List Value→Prop:=Paired RelV
theorem Vals.length{xs:List V}{us:List Value}(r:Vals xs us):xs.length=us.length:=Paired.length r
theorem Vals.get:∀{xs:List V} {us:List Value} {i:Nat} {x:V},Vals xs us→xs[i]? =some x→∃u,us[i]? =some u∧RelV x u
 |_,_,_,_, .nil,e=>by simp at e
 |_,_,0,_, .cons r _,e=>by simp at e;subst e;exact⟨_,rfl,r⟩
 |_,_,i+1,x, .cons _ t,e=>by
  obtain⟨u,h1,h2⟩:=Vals.get (i:=i) (x:=x) t (by simpa using e)
  exact⟨u,by simpa using h1,h2⟩
theorem Vals.append:∀{xs ys:List V} {us ws:List Value},Vals xs us→Vals ys ws→Vals (xs++ys) (us++ws)
 |_,_,_,_, .nil,s=>s
 |_,_,_,_, .cons r t,s=> .cons r (Vals.append t s)
theorem Vals.take:∀{xs:List V} {us:List Value} (n:Nat),Vals xs us→Vals (xs.take n) (us.take n)
 |_,_,0,_=> .nil
 |_,_,_+1, .nil=> .nil
 |_,_,n+1, .cons r t=> .cons r (Vals.take n t)
theorem Vals.drop:∀{xs:List V} {us:List Value} (n:Nat),Vals xs us→Vals (xs.drop n) (us.drop n)
 |_,_,0,r=>r
 |_,_,_+1, .nil=> .nil
 |_,_,n+1, .cons _ t=>Vals.drop n t
def RelO:Option V→Option Value→Prop
 |some v,some u=>RelV v u
 |none,none=>True
 |_,_=>False
def KV{κ:Type}:List (κ×V)→List (κ×Value)→Prop:=Paired fun(p:κ×V) (q:κ×Value)=>p.1=q.1∧RelV p.2 q.2
def kV:Key→V
 | .inl i=> .int i
 | .inr x=> .str x
inductive HO where
 |lst (xs:List V)
 |tup (xs:List V)
 |dK (kvs:List (Key×V))|dT (kvs:List (List Key×V))
 |set (S:Int→Bool) (n:Nat)
 |ins (C dx:Addr) (fs:List (Str×V))
 |own (x:Addr)
 |xd (fs:List (Str×V))
 |met (f x:Addr)
 |rng (lo hi:Int)
 |frz (o:Obj) (u:HO)
 |tbl (ps:Array Value)
 |ext (φ:Heap→Prop)
abbrev Hp:=Addr→Option HO
def upd(H:Hp)(a:Addr)(o:HO):Hp:=fun b=>if b=a then some o else H b
theorem aX{H:Hp}{a:Addr}{o:HO}:upd H a o a=some o:=by unfold upd;rw[if_pos rfl]
theorem aR{H:Hp}{a b:Addr}{o:HO}(h:b≠a):upd H a o b=H b:=by unfold upd;rw[if_neg h]
theorem Cp{H:Hp}{a b:Addr}{o u:HO}(h:H a=some o)(h':H b=some u)(d:o≠u):a≠b:=by
 intro e;subst e;rw[h] at h';exact d (Option.some.inj h')
theorem aM{H:Hp}{a b:Addr}{o:HO}(h:H a=some o)(h':H b=none):a≠b:=by
 intro e;subst e;rw[h] at h';cases h'
section
variable(P:Program)(w:World)
def ObjOk(H:Hp)(h:Heap)(a:Addr):HO→Prop
 | .lst xs=>xs.length≤sizeLine∧∃(its:List Value) (n:Nat),Vals xs its∧h.get? a=some {cls:= .type "list",data:= .seq its.toArray n}
 | .tup xs=>xs.length≤sizeLine∧∃its:List Value,Vals xs its∧IsTup h a its.toArray
 | .dK kvs=>kvs.length≤sizeLine∧(a==sysModules)=false∧∃vs,KV kvs vs∧h.DictOf (cB P w) a vs
 | .dT kvs=>kvs.length≤sizeLine∧(a==sysModules)=false∧∃xs:List (List Key×Addr×Value),
  Paired (fun(p:List Key×V) (q:List Key×Addr×Value)=>p.1=q.1∧H q.2.1=some (.tup (p.1.map kV))∧RelV p.2 q.2.2) kvs xs∧
  ∃o es ep,h.get? a=some o∧o.ExactDict∧o.data= .dict es ep∧es.toList=xs.map (entryOfKey (tupleKind (cB P w)))∧(xs.map (·.1)).Nodup
 | .set S n=>h.SetOf (intKind P w) a S n
 | .ins C dx fs=>H dx=some (.own a)∧fs.length≤1000∧dx≠a∧h.get? a=some (W.instObj C dx)∧
  ∃mA,h.Ns1 dx mA∧(∀f,RelO (fs.lookup f) (mA f))∧PySem.Within mA (fs.map (·.1))
 | .own _=>∃o,h.get? a=some o
 | .xd fs=>∃mA,h.Ns1 a mA∧∀f,RelO (fs.lookup f) (mA f)
 | .rng lo hi=>∃t u v,h.get? a=some {cls:= .type "range",data:= .fields #[.int lo t, .int hi u, .int 1 v]}
 | .frz o u=>h.get? a=some o∧ObjOk H h a u
 | .tbl ps=>h.get? a=some {cls:= .none,data:= .fields ps}
 | .met f x=>h.get? a=some (W.methodObj (.ref f) (.ref x))
 | .ext φ=>φ h∧(∃o,h.get? a=some o)∧∀h1 h2:Heap,φ h1→(∀o,h1.get? a=some o→h2.get? a=some o)→φ h2
def HOk(H:Hp)(h:Heap):Prop:=∀a o,H a=some o→ObjOk P w H h a o
end
section
variable{P:Program}{w:World}{H H':Hp}{h h':Heap}{a:Addr}{o:HO}
theorem ObjOk.lt(x:ObjOk P w H h a o):a<h.objs.size:=by
 cases o with
 |lst xs=>obtain⟨_,_,_,_,e⟩:=x;exact Heap.lt_size e
 |tup xs=>obtain⟨_,_,_,p⟩:=x;exact p.lt
 |dK kvs=>obtain⟨_,_,_,_,o,_,_,e,_⟩:=x;exact Heap.lt_size e
 |dT kvs=>obtain⟨_,_,_,_,o,_,_,e,_⟩:=x;exact Heap.lt_size e
 |set S n=>obtain⟨o,_,_,_,e,_⟩:=x;exact Heap.lt_size e
 |ins C dx fs=>obtain⟨_,_,_,e,_⟩:=x;exact Heap.lt_size e
 |own y=>obtain⟨_,e⟩:=x;exact Heap.lt_size e
 |xd fs=>obtain⟨_,⟨_,_,_,e,_⟩,_⟩:=x;exact Heap.lt_size e
 |rng lo hi=>obtain⟨_,_,_,e⟩:=x;exact Heap.lt_size e
 |frz ob u=>obtain⟨e,_⟩:=x;exact Heap.lt_size e
 |tbl ps=>exact Heap.lt_size (show h.get? a=some _ from x)
 |met f y=>exact Heap.lt_size (show h.get? a=some _ from x)
 |ext φ=>obtain⟨_,⟨_,e⟩,_⟩:=x;exact Heap.lt_size e
theorem Paired.mapP{α β:Type}{F G:α→β→Prop}:∀{l₁:List α} {l₂:List β},Paired F l₁ l₂→(∀a b,F a b→G a b)→Paired G l₁ l₂
 |_,_, .nil,_=> .nil
 |_,_, .cons r t,f=> .cons (f _ _ r) (Paired.mapP t f)
theorem ObjOk.stay(x:ObjOk P w H h a o)(k:∀b u,(b=a∨H b=some (.own a))→h.get? b=some u→h'.get? b=some u)
 (ho:∀b,H b=some (.own a)→H' b=some (.own a))(ht:∀b xs,H b=some (.tup xs)→H' b=some (.tup xs)):ObjOk P w H' h' a o:=by
 induction o with
 |lst xs=>obtain⟨z,its,n,r,e⟩:=x;exact⟨z,its,n,r,k _ _ (.inl rfl) e⟩
 |tup xs=>obtain⟨z,its,r,ob,e,c⟩:=x;exact⟨z,its,r,ob,k _ _ (.inl rfl) e,c⟩
 |dK kvs=>obtain⟨z,y,vs,r,ob,es,ep,e,c⟩:=x;exact⟨z,y,vs,r,ob,es,ep,k _ _ (.inl rfl) e,c⟩
 |dT kvs=>
  obtain⟨z,y,xs,r,ob,es,ep,e,c⟩:=x
  exact⟨z,y,xs,Paired.mapP r fun p q z=>⟨z.1,ht _ _ z.2.1,z.2.2⟩,ob,es,ep,k _ _ (.inl rfl) e,c⟩
 |set S n=>obtain⟨ob,es,ep,t,e,c⟩:=x;exact⟨ob,es,ep,t,k _ _ (.inl rfl) e,c⟩
 |ins C dx fs=>
  obtain⟨d,z,ne,e,mA,⟨od,es,ep,e2,c⟩,r⟩:=x
  exact⟨ho _ d,z,ne,k _ _ (.inl rfl) e,mA,⟨od,es,ep,k _ _ (.inr d) e2,c⟩,r⟩
 |own y=>obtain⟨ob,e⟩:=x;exact⟨ob,k _ _ (.inl rfl) e⟩
 |xd fs=>obtain⟨mA,⟨od,es,ep,e,c⟩,r⟩:=x;exact⟨mA,⟨od,es,ep,k _ _ (.inl rfl) e,c⟩,r⟩
 |rng lo hi=>obtain⟨t,u,v,e⟩:=x;exact⟨t,u,v,k _ _ (.inl rfl) e⟩
 |frz ob u ih=>obtain⟨e,q⟩:=x;exact⟨k _ _ (.inl rfl) e,ih q⟩
 |tbl ps=>
  have e:h.get? a=some {cls:= .none,data:= .fields ps}:=x
  show h'.get? a=some {cls:= .none,data:= .fields ps}
  exact k a _ (.inl rfl) e
 |met f y=>
  have e:h.get? a=some (W.methodObj (.ref f) (.ref y)):=x
  show h'.get? a=some (W.methodObj (.ref f) (.ref y))
  exact k a _ (.inl rfl) e
 |ext φ=>obtain⟨p,⟨o,e⟩,st⟩:=x;exact⟨st _ _ p fun o q=>k _ _ (.inl rfl) q,⟨o,k _ _ (.inl rfl) e⟩,st⟩
theorem HOk.lt(x:HOk P w H h)(e:H a=some o):a<h.objs.size:=(x a o e).lt
theorem HOk.fresh(x:HOk P w H h)(e:h.objs.size≤a):H a=none:=by
 cases q:H a with
 |none=>rfl
 |some u=>exact absurd (Nat.lt_of_lt_of_le (x.lt q) e) (Nat.lt_irrefl _)
theorem HOk.kept(x:HOk P w H h)(k:∀b u,h.get? b=some u→h'.get? b=some u):HOk P w H h':=fun a o e=>
 (x a o e).stay (fun b u _ q=>k b u q) (fun _ q=>q) fun _ _ q=>q
theorem HOk.laid(x:HOk P w H h)(k:∀b u,h.get? b=some u→h'.get? b=some u)(hp:h.objs.size≤a)(new:ObjOk P w (upd H a o) h' a o):HOk P w (upd H a o) h':=fun b u e=>by
 have hn:=x.fresh hp
 by_cases hb:b=a
 · subst hb;rw[aX] at e;cases e;exact new
 · rw[aR hb] at e
   exact(x b u e).stay (fun c v _ q=>k c v q) (fun c q=>by rw[aR (aM q hn)];exact q) fun c xs q=>by rw[aR (aM q hn)];exact q
end
def Rd(H:Hp)(a:Addr)(u:HO):Prop:=H a=some u∨∃o,H a=some (.frz o u)
theorem Rd.ok{P:Program}{w:World}{H:Hp}{h:Heap}{a:Addr}{u:HO}(r:Rd H a u)(x:HOk P w H h):ObjOk P w H h a u:=by
 rcases r with r|⟨o,r⟩
 · exact x a u r
 · obtain⟨_,q⟩:=x a _ r
   exact q
def Mut:Option HO→Prop
 |some (.lst _)=>True
 |some (.dK _)=>True
 |some (.dT _)=>True
 |some (.set _ _)=>True
 |some (.ins _ _ _)=>True
 |some (.ext _)=>True
 |_=>False
section
variable{P:Program}{w:World}{H:Hp}{h h':Heap}{x e:Addr}{o':HO}
theorem HOk.write(ok:HOk P w H h)(mu:Mut (H x))(he:e=x∨H e=some (.own x))(k:∀b u,b≠e→h.get? b=some u→h'.get? b=some u)(heo:∃u,h'.get? e=some u)
 (new:ObjOk P w (upd H x o') h' x o'):HOk P w (upd H x o') h':=fun b u q=>by
 have nown:∀c y,H c=some (.own y)→c≠x:=fun c y r z=>by subst z;rw[r] at mu;exact mu
 have ntup:∀c xs,H c=some (.tup xs)→c≠x:=fun c xs r z=>by subst z;rw[r] at mu;exact mu
 by_cases hb:b=x
 · subst hb;rw[aX] at q;cases q;exact new
 · rw[aR hb] at q
   by_cases hbe:b=e
   · have q':H b=some (.own x):=by
      rcases he with z|z
      · exact absurd (hbe.trans z) hb
      · rw[hbe];exact z
     rw[q] at q';cases q'
     obtain⟨v,hv⟩:=heo
     exact⟨v,by rw[hbe];exact hv⟩
   · refine(ok b u q).stay (fun c v hc r=>k c v ?_ r) (fun c r=>by rw[aR (nown c b r)];exact r) fun c xs r=>by rw[aR (ntup c xs r)];exact r
     rcases hc with rfl|hc
     · exact hbe
     · rintro rfl
       rcases he with z|z
       · exact nown c b hc z
       · rw[hc] at z;cases z;exact hb rfl
end
structure Un(fs ex:List Addr)(H H':Hp)(h h':Heap):Prop where
 keep:∀b o,h.get? b=some o→H b=none→b∉fs→b∉ex→h'.get? b=some o
 slot:∀b o,h.get? b=some o→H b=none→b∈fs→b∉ex→∃sl,h'.get? b=some {o with slots:=sl}
 free:∀b o,h.get? b=some o→H b=none→b∉ex→H' b=none
 there:∀b o,h.get? b=some o→b∉ex→∃o',h'.get? b=some o'
 tups:∀b xs,H b=some (.tup xs)→H' b=some (.tup xs)
 frzs:∀b o u,H b=some (.frz o u)→H' b=some (.frz o u)
 tbls:∀b ps,H b=some (.tbl ps)→∃more,H' b=some (.tbl (ps++more))
section
variable{fs fs' ex ex':List Addr}{H H1 H2:Hp}{h h1 h2 h':Heap}{a x e:Addr}{o:HO}
theorem Un.any(u:Un fs ex H H1 h h1){b:Addr}{ob:Obj}(q:h.get? b=some ob)(n:H b=none)(hx:b∉ex):∃sl,h1.get? b=some {ob with slots:=sl}:=by
 by_cases hb:b∈fs
 · exact u.slot b ob q n hb hx
 · exact⟨ob.slots,u.keep b ob q n hb hx⟩
theorem Un.kept(k:∀b u,h.get? b=some u→h'.get? b=some u):Un fs ex H H h h':=
 ⟨fun b ob q _ _ _=>k b ob q,fun b ob q _ _ _=>⟨ob.slots,k b ob q⟩,fun _ _ _ n _=>n,fun b ob q _=>⟨ob,k b ob q⟩,fun _ _ q=>q,fun _ _ _ q=>q,fun _ ps q=>⟨#[],by rw[q];simp⟩⟩
theorem Un.refl:Un fs ex H H h h:=Un.kept fun _ _ q=>q
theorem Un.laid(k:∀b u,h.get? b=some u→h'.get? b=some u)(hp:h.objs.size≤a)(hn:H a=none):Un fs ex H (upd H a o) h h' where
 keep:=fun b u q _ _ _=>k b u q
 slot:=fun b u q _ _ _=>⟨u.slots,k b u q⟩
 free:=fun b u q n _=>by rw[aR (Nat.ne_of_lt (Nat.lt_of_lt_of_le (Heap.lt_size q) hp))];exact n
 there:=fun b u q _=>⟨u,k b u q⟩
 tups:=fun b xs q=>by rw[aR (aM q hn)];exact q
 frzs:=fun b u xs q=>by rw[aR (aM q hn)];exact q
 tbls:=fun b ps q=>⟨#[],by rw[aR (aM q hn),q];simp⟩
theorem Un.write(mu:Mut (H x))(he:e=x∨H e=some (.own x))(k:∀b u,b≠e→h.get? b=some u→h'.get? b=some u)(heo:∃u,h'.get? e=some u):Un fs ex H (upd H x o) h h':=by
 have hx:∀b,H b=none→b≠x:=fun b n z=>by subst z;rw[n] at mu;exact mu
 have hb:∀b,H b=none→b≠e:=fun b n z=>by
  subst z
  rcases he with r|r
  · exact hx b n r
  · rw[n] at r;cases r
 have hm:∀b u,H b=some u→¬Mut (some u)→b≠x:=fun b u q nm z=>by subst z;rw[q] at mu;exact nm mu
 refine⟨fun b u q n _ _=>k b u (hb b n) q,fun b u q n _ _=>⟨u.slots,k b u (hb b n) q⟩,fun b u q n _=>by rw[aR (hx b n)];exact n,fun b u q _=> ?_,
  fun b xs q=>by rw[aR (hm b _ q fun z=>z)];exact q,fun b u xs q=>by rw[aR (hm b _ q fun z=>z)];exact q,fun b ps q=>⟨#[],by rw[aR (hm b _ q fun z=>z),q];simp⟩⟩
 by_cases hbe:b=e
 · subst hbe;exact heo
 · exact⟨u,k b u hbe q⟩
end
def trk(h:Heap)(H:Hp):List Addr:=(List.range h.objs.size).filter fun a=>(H a).isSome
def oX(h:Heap)(H:Hp):Heap:=W.hideAll h (trk h H)
theorem vJ(h:Heap)(H:Hp):(oX h H).objs.size=h.objs.size:=W.hideAll_size _ _
theorem wg{h:Heap}{H:Hp}{b:Addr}{o:Obj}(e:h.get? b=some o)(n:H b=none):(oX h H).get? b=some o:=
 W.hideAll_get _ e fun hm=>by
  have q:(H b).isSome=true:=(List.mem_filter.mp hm).2
  rw[n] at q;simp at q
theorem yj{h:Heap}{H:Hp}{b:Addr}{o:Obj}(e:(oX h H).get? b=some o):h.get? b=some o∧H b=none:=by
 have e':h.get? b=some o:=W.of_hideAll (trk h H) e
 refine⟨e', ?_⟩
 cases q:H b with
 |none=>rfl
 |some x=>
  have hm:b∈trk h H:=List.mem_filter.mpr ⟨List.mem_range.mpr (Heap.lt_size e'),by simp[q]⟩
  have z:(oX h H).get? b=none:=W.hideAll_none (trk h H) hm
  rw[z] at e;cases e
def yk(g h:Heap)(L:Addr):List (Addr×Obj):=(List.range h.objs.size).filterMap fun a=>if a=L∨(g.get? a).isSome=true then none else(h.get? a).map fun o=>(a,o)
def h9(g h:Heap)(L d:Addr):List (Addr×Obj):=(yk g h L).filter fun p=>decide (p.1≠d)
end L2
namespace L2
open PySem PySem.Spec PyProof.Rows
structure Mod(K:W.Frag)(mg:Str→Option Value)(base:Heap):Prop where
 kin:K.In base
 glob:base.Ns mainGlobals mg
 blt:∃mb,base.Ns builtinsNs mb∧∀x:Str,x≠"__name__"→mb x=bootBuiltins x
 nolimit:base.NoLimit
structure Cx where
 prog:Program
 w:World
 K:W.Frag
 mg:Str→Option Value
 base:Heap
 A:Around
 N:List Str
 s₀:Shared
 H₀:Hp
 env:Env
 outer:List Env
 stack:List Env
 ex:List Addr
 fn:Str→Bool
 calm:Bool
 pn:List (Addr×Obj)
 xe:Value→Shared→Prop
def frs(l:List Env):List Addr:=l.filterMap (·.frame)
abbrev Cx.fs(X:Cx):List Addr:=frs X.outer
def Vis(sc:Scope)(x:Str):Prop:=sc.names.lookup x=some .local∨sc.names.lookup x=some .cell∨sc.names.lookup x=some .free
def Loc(sc:Scope)(x:Str):Prop:=sc.names.lookup x=some .local∨sc.names.lookup x=some .cell
def D0(env:Env)(h:Heap)(m:Str→Option Value)(x:Str)(u:Value):Prop:=
 (env.kindOf x=some .local∧m x=some u)∨((env.kindOf x=some .cell∨env.kindOf x=some .free)∧∃c,env.cells.lookup x=some c∧h.IsCell c (some u))
structure Cx.Ok(X:Cx):Prop where
 mod:Mod X.K X.mg X.base
 kind:X.env.scope.kind= .function
 glob:X.env.globals=mainGlobals
 blt:X.env.builtins=builtinsNs
 above:X.s₀.heap.objs.size≤X.env.locals
 inj:∀x y c,X.env.cells.lookup x=some c→X.env.cells.lookup y=some c→x=y
 has:∀x,(X.env.kindOf x=some .cell∨X.env.kindOf x=some .free)→∃c,X.env.cells.lookup x=some c
 cab:∀x c,X.fn x=true→X.env.cells.lookup x=some c→X.s₀.heap.objs.size≤c
 hd:X.calm=true→X.A.handled=none
 frames:X.A.frames=some X.stack
 stk:X.stack=X.outer∨(X.stack=X.env::X.outer∧X.env.frame=some X.env.locals)
 exf:∀b∈X.ex,b≠X.env.locals∧∀x c,X.env.cells.lookup x=some c→c≠b
 bs:∀b o,X.base.get? b=some o→X.s₀.heap.get? b=some o∧X.H₀ b=none
 bsz:X.base.objs.size≤X.s₀.heap.objs.size
 noex:∀b o,X.base.get? b=some o→b∉X.ex
 exfs:∀b∈X.ex,b∉X.fs
 funs:X.s₀.heap.FunFrames X.base X.outer
 frf:∀b∈X.fs,X.H₀ b=none
structure Inv(X:Cx)(pins:List (Addr×Obj))(σ:List (Option V))(H:Hp)(s:Shared):Prop where
 ok:X.Ok
 os:s.os=X.s₀.os
 bare:AllBare s.gens
 base:Un X.fs X.ex X.H₀ H X.s₀.heap s.heap
 loc:∃m,s.heap.Ns X.env.locals m∧∀(i:Nat) (x:Str) (v:V),X.N[i]? =some x→σ[i]? =some (some v)→Vis X.env.scope x→∃u,RelV v u∧D0 X.env s.heap m x u
 cell:∀x c,X.env.cells.lookup x=some c→∃v,s.heap.IsCell c v
 free:H X.env.locals=none
 freeC:∀x c,X.env.cells.lookup x=some c→H c=none
 pin:∀p∈X.pn++pins,s.heap.get? p.1=some p.2∧H p.1=none∧p.1≠X.env.locals∧p.1∉X.fs∧∀v,p.2.data≠ .cell v
 hok:HOk X.prog X.w H s.heap
 len:σ.length=X.N.length
section
variable{X:Cx}{pins:List (Addr×Obj)}{σ:List (Option V)}{H H':Hp}{s:Shared}{h':Heap}
theorem Cx.Ok.nofr(ok:X.Ok){b:Addr}{o:Obj}(e:X.base.get? b=some o):b∉X.fs:=fun hb=>by
 have:=(ok.funs.mem hb).1
 rw[e] at this;cases this
theorem Inv.bs(I:Inv X pins σ H s):∀b o,X.base.get? b=some o→s.heap.get? b=some o∧H b=none:=fun b o e=>
 ⟨I.base.keep b o (I.ok.bs b o e).1 (I.ok.bs b o e).2 (I.ok.nofr e) (I.ok.noex b o e),I.base.free b o (I.ok.bs b o e).1 (I.ok.bs b o e).2 (I.ok.noex b o e)⟩
theorem Inv.bk(I:Inv X pins σ H s):∀b o,X.base.get? b=some o→s.heap.get? b=some o:=fun b o e=>(I.bs b o e).1
theorem Inv.mod(I:Inv X pins σ H s):Mod X.K X.mg X.base:=I.ok.mod
theorem Inv.kIn(I:Inv X pins σ H s):X.K.In s.heap:=I.ok.mod.kin.keeps I.bk
theorem Inv.lt(I:Inv X pins σ H s):X.env.locals<s.heap.objs.size:=let⟨_,hn,_⟩:=I.loc;hn.lt
theorem Inv.sz(I:Inv X pins σ H s):X.s₀.heap.objs.size≤s.heap.objs.size:=Nat.le_trans I.ok.above (Nat.le_of_lt I.lt)
theorem Inv.nofs(I:Inv X pins σ H s){a:Addr}(h:s.heap.objs.size≤a):a∉X.fs:=fun hb=>by
 obtain⟨_,o,ho,_⟩:=I.ok.funs.mem hb
 exact absurd (Nat.lt_of_lt_of_le (Heap.lt_size ho) (Nat.le_trans I.sz h)) (Nat.lt_irrefl _)
theorem Inv.cne(I:Inv X pins σ H s):∀x c,X.env.cells.lookup x=some c→c≠X.env.locals:=fun x c e z=>by
 obtain⟨v,o,ho,hd⟩:=I.cell x c e
 obtain⟨m,⟨o',es,ep,ho',hd',_⟩,_⟩:=I.loc
 rw[z,ho'] at ho;cases ho;rw[hd'] at hd;cases hd
theorem Inv.funs(I:Inv X pins σ H s):s.heap.FunFrames X.base X.outer:=by
 have all:∀(l:List Env),(∀b∈frs l,b∈X.fs)→X.s₀.heap.FunFrames X.base l→s.heap.FunFrames X.base l:=by
  intro l
  induction l with
  |nil=>intro _ _;trivial
  |cons env r ih=>
   intro hs hl
   obtain⟨hk,⟨L,o,hf,hn,ho,hd⟩,hr⟩:=hl
   have hL:L∈X.fs:=hs L (by unfold frs;rw[List.filterMap_cons,hf];exact List.mem_cons_self)
   obtain⟨sl,e⟩:=I.base.slot L o ho (I.ok.frf L hL) hL fun z=>I.ok.exfs L z hL
   exact⟨hk,⟨L,_,hf,hn,e,hd⟩,ih (fun b hb=>hs b (by unfold frs;rw[List.filterMap_cons,hf];exact List.mem_cons_of_mem _ hb)) hr⟩
 exact all X.outer (fun _ hb=>hb) I.ok.funs
theorem Inv.stack(I:Inv X pins σ H s):s.heap.FunFrames X.base X.stack:=by
 rcases I.ok.stk with e|⟨e,hf⟩
 · rw[e];exact I.funs
 · rw[e]
   obtain⟨m,hn,_⟩:=I.loc
   refine .cons (by rw[I.ok.kind];decide) hf hn ?_ I.funs
   exact Heap.get?_none_of_le (Nat.le_trans I.ok.bsz I.ok.above)
theorem Inv.stkSub(I:Inv X pins σ H s):∀b∈frs X.stack,b∈X.env.locals::X.fs:=fun b hb=>by
 rcases I.ok.stk with e|⟨e,hf⟩
 · rw[e] at hb;exact List.mem_cons_of_mem _ hb
 · rw[e] at hb
   unfold frs at hb
   rw[List.filterMap_cons,hf] at hb
   exact hb
theorem Inv.stkFree(I:Inv X pins σ H s):∀b∈frs X.stack,H b=none:=fun b hb=>by
 rcases List.mem_cons.mp (I.stkSub b hb) with e|hb
 · rw[e];exact I.free
 · obtain⟨_,o,ho,_⟩:=I.ok.funs.mem hb
   exact I.base.free b o ho (I.ok.frf b hb) fun z=>I.ok.exfs b z hb
theorem Inv.step{g':Array GenState}{t':Nat}{d':Drawn}{ch:List Addr}(I:Inv X pins σ H s)
 (hch:∀b∈ch,(b∈X.ex∨X.s₀.heap.objs.size≤b)∧b≠X.env.locals∧(∀x c,X.env.cells.lookup x=some c→c≠b)∧∀p∈X.pn++pins,p.1≠b)
 (keep:∀b o,b≠X.env.locals→b∉X.fs→b∉ch→s.heap.get? b=some o→H b=none→h'.get? b=some o)
 (slot:∀b o,b≠X.env.locals→b∈X.fs→b∉ch→s.heap.get? b=some o→H b=none→∃sl,h'.get? b=some {o with slots:=sl})(free:∀b o,b∉ch→s.heap.get? b=some o→H b=none→H' b=none)
 (there:∀b o,b∉ch→s.heap.get? b=some o→∃o',h'.get? b=some o')
 (tups:∀b xs,H b=some (.tup xs)→H' b=some (.tup xs))(frzs:∀b o u,H b=some (.frz o u)→H' b=some (.frz o u))(tbls:∀b ps,H b=some (.tbl ps)→∃more,H' b=some (.tbl (ps++more)))
 (ns:∀m,s.heap.Ns X.env.locals m→h'.Ns X.env.locals m)(hok:HOk X.prog X.w H' h')(hg:AllBare g'):
 Inv X pins σ H' {s with heap:=h',gens:=g',drawn:=d',toks:=t'}:=by
 have neL:∀b o,X.s₀.heap.get? b=some o→b≠X.env.locals:=fun b o e=>Nat.ne_of_lt (Nat.lt_of_lt_of_le (Heap.lt_size e) I.ok.above)
 have neC:∀b o,X.s₀.heap.get? b=some o→b∉X.ex→b∉ch:=fun b o e hx hb=>by
  rcases(hch b hb).1 with z|z
  · exact hx z
  · exact absurd (Nat.lt_of_lt_of_le (Heap.lt_size e) z) (Nat.lt_irrefl _)
 have cellK:∀x c,X.env.cells.lookup x=some c→∀v,s.heap.IsCell c v→h'.IsCell c v:=fun x c e v ⟨o,ho,hd⟩=>by
  have nch:c∉ch:=fun z=>(hch c z).2.2.1 x c e rfl
  by_cases hc:c∈X.fs
  · obtain⟨sl,q⟩:=slot c o (I.cne x c e) hc nch ho (I.freeC x c e)
    exact⟨_,q,hd⟩
  · exact⟨o,keep c o (I.cne x c e) hc nch ho (I.freeC x c e),hd⟩
 refine⟨I.ok,I.os,hg,⟨fun b o e n hb hx=> ?_,fun b o e n hb hx=> ?_,fun b o e n hx=> ?_,fun b o e hx=> ?_,fun b xs e=>tups b xs (I.base.tups b xs e),fun b o xs e=>frzs b o xs (I.base.frzs b o xs e),fun b ps e=> ?_⟩, ?_,fun x c e=> ?_, ?_,fun x c e=> ?_,fun p hp=> ?_,hok,I.len⟩
 · exact keep b o (neL b o e) hb (neC b o e hx) (I.base.keep b o e n hb hx) (I.base.free b o e n hx)
 · obtain⟨sl,e1⟩:=I.base.slot b o e n hb hx
   obtain⟨sl',e2⟩:=slot b _ (neL b o e) hb (neC b o e hx) e1 (I.base.free b o e n hx)
   exact⟨sl',e2⟩
 · obtain⟨o',e1⟩:=I.base.there b o e hx
   exact free b o' (neC b o e hx) e1 (I.base.free b o e n hx)
 · obtain⟨o',e1⟩:=I.base.there b o e hx
   exact there b o' (neC b o e hx) e1
 · obtain⟨m1,e1⟩:=I.base.tbls b ps e
   obtain⟨m2,e2⟩:=tbls b _ e1
   exact⟨m1++m2,by rw[e2,Array.append_assoc]⟩
 · obtain⟨m,hn,hl⟩:=I.loc
   refine⟨m,ns m hn,fun i x v e1 e2 e3=> ?_⟩
   obtain⟨u,r,l⟩:=hl i x v e1 e2 e3
   refine⟨u,r, ?_⟩
   rcases l with l|⟨k,c,e,z⟩
   · exact .inl l
   · exact .inr ⟨k,c,e,cellK x c e _ z⟩
 · obtain⟨v,z⟩:=I.cell x c e
   exact⟨v,cellK x c e v z⟩
 · obtain⟨m,⟨o,_,_,ho,_⟩,_⟩:=I.loc
   exact free _ o (fun z=>(hch _ z).2.1 rfl) ho I.free
 · obtain⟨v,o,ho,hd⟩:=I.cell x c e
   exact free c o (fun z=>(hch c z).2.2.1 x c e rfl) ho (I.freeC x c e)
 · obtain⟨e,n,ne,nf,d⟩:=I.pin p hp
   have nch:p.1∉ch:=fun z=>(hch p.1 z).2.2.2 p hp rfl
   exact⟨keep p.1 p.2 ne nf nch e n,free p.1 p.2 nch e n,ne,nf,d⟩
theorem Inv.un{t':Nat}(I:Inv X pins σ H s)(u:Un X.fs [] H H' s.heap h')(hok:HOk X.prog X.w H' h'):Inv X pins σ H' {s with heap:=h',toks:=t'}:=by
 obtain⟨m,⟨o,es,ep,ho,r⟩,_⟩:=id I.loc
 obtain⟨sl,hL⟩:=u.any ho I.free (by simp)
 exact I.step (g':=s.gens) (d':=s.drawn) (ch:=[]) (fun _ z=>nomatch z) (fun b o _ hb _ e n=>u.keep b o e n hb (by simp)) (fun b o _ hb _ e n=>u.slot b o e n hb (by simp)) (fun b o _ e n=>u.free b o e n (by simp)) (fun b o _ e=>u.there b o e (by simp)) u.tups u.frzs u.tbls (fun m' hm=>by
  obtain⟨o',es',ep',ho',r'⟩:=hm
  rw[ho] at ho';cases ho'
  exact⟨_,es',ep',hL,r'⟩) hok I.bare
theorem Inv.call{g':Array GenState}{t':Nat}{d':Drawn}{ch:List Addr}(I:Inv X pins σ H s)(u:Un (frs X.stack) ch H H' s.heap h')(hok:HOk X.prog X.w H' h')(hg:AllBare g')
 (hch:∀b∈ch,(b∈X.ex∨X.s₀.heap.objs.size≤b)∧b≠X.env.locals∧(∀x c,X.env.cells.lookup x=some c→c≠b)∧∀p∈X.pn++pins,p.1≠b):
 Inv X pins σ H' {s with heap:=h',gens:=g',drawn:=d',toks:=t'}:=by
 obtain⟨m,⟨o,es,ep,ho,r⟩,_⟩:=id I.loc
 obtain⟨sl,hL⟩:=u.any ho I.free fun z=>(hch _ z).2.1 rfl
 exact I.step (ch:=ch) hch (fun b o hL hb hc e n=>u.keep b o e n (fun z=>(List.mem_cons.mp (I.stkSub b z)).elim hL hb) hc) (fun b o _ _ hc e n=>u.any e n hc) (fun b o hc e n=>u.free b o e n hc) (fun b o hc e=>u.there b o e hc) u.tups u.frzs u.tbls (fun m' hm=>by
  obtain⟨o',es',ep',ho',r'⟩:=hm
  rw[ho] at ho';cases ho'
  exact⟨_,es',ep',hL,r'⟩) hok hg
theorem Inv.turned{t':Nat}{it:Addr}(I:Inv X pins σ H s)(k:∀b o,b≠it→s.heap.get? b=some o→h'.get? b=some o)(hn:H it=none)(hL:it≠X.env.locals)
 (h1:it∈X.ex∨X.s₀.heap.objs.size≤it)(h2:∀x c,X.env.cells.lookup x=some c→c≠it)(h3:∀p∈X.pn++pins,p.1≠it):Inv X pins σ H {s with heap:=h',toks:=t'}:=by
 have nit:∀b u,H b=some u→b≠it:=fun b u e z=>by rw[z,hn] at e;cases e
 refine I.step (g':=s.gens) (d':=s.drawn) (ch:=[it]) (fun b hb=> ?_) (fun b o _ _ hc e _=>k b o (fun z=>hc (by simp[z])) e) (fun b o _ _ hc e _=>⟨o.slots,k b o (fun z=>hc (by simp[z])) e⟩) (fun _ _ _ _ n=>n)
  (fun b o hc e=>⟨o,k b o (fun z=>hc (by simp[z])) e⟩) (fun _ _ e=>e) (fun _ _ _ e=>e) (fun b ps e=>⟨#[],by rw[e];simp⟩) (fun m hm=> ?_) (fun b u e=> ?_) I.bare
 · have e:b=it:=by simpa using hb
   subst e
   exact⟨h1,hL,h2,h3⟩
 · obtain⟨o,es,ep,ho,r⟩:=hm
   exact⟨o,es,ep,k _ o (Ne.symm hL) ho,r⟩
 · refine(I.hok b u e).stay (fun c v hc q=>k c v ?_ q) (fun _ q=>q) fun _ _ q=>q
   rcases hc with z|z
   · rw[z];exact nit b u e
   · exact nit c _ z
theorem Inv.tok(I:Inv X pins σ H s)(t:Nat):Inv X pins σ H {s with toks:=t}:=I.un (h':=s.heap) (t':=t) Un.refl I.hok
theorem Inv.kept{t':Nat}(I:Inv X pins σ H s)(k:∀b u,s.heap.get? b=some u→h'.get? b=some u):Inv X pins σ H {s with heap:=h',toks:=t'}:=I.un (Un.kept k) (I.hok.kept k)
theorem Inv.laid{a:Addr}{o:HO}{t':Nat}(I:Inv X pins σ H s)(k:∀b u,s.heap.get? b=some u→h'.get? b=some u)(hp:s.heap.objs.size≤a)(new:ObjOk X.prog X.w (upd H a o) h' a o):
 Inv X pins σ (upd H a o) {s with heap:=h',toks:=t'}:=I.un (Un.laid k hp (I.hok.fresh hp)) (I.hok.laid k hp new)
theorem Inv.write{x e:Addr}{o:HO}{t':Nat}(I:Inv X pins σ H s)(mu:Mut (H x))(he:e=x∨H e=some (.own x))(k:∀b u,b≠e→s.heap.get? b=some u→h'.get? b=some u)(heo:∃u,h'.get? e=some u)
 (new:ObjOk X.prog X.w (upd H x o) h' x o):Inv X pins σ (upd H x o) {s with heap:=h',toks:=t'}:=I.un (Un.write mu he k heo) (I.hok.write mu he k heo new)
theorem Inv.weak{σ':List (Option V)}(I:Inv X pins σ H s)(hl:σ'.length=σ.length)(w:∀(i:Nat) v,σ'[i]? =some (some v)→σ[i]? =some (some v)):Inv X pins σ' H s:=
 ⟨I.ok,I.os,I.bare,I.base,let⟨m,hn,hl'⟩:=I.loc;⟨m,hn,fun i x v e1 e2 e3=>hl' i x v e1 (w i v e2) e3⟩,I.cell,I.free,I.freeC,I.pin,I.hok,hl.trans I.len⟩
theorem Inv.pins_of{pins':List (Addr×Obj)}(I:Inv X pins σ H s)(h:∀p∈pins',s.heap.get? p.1=some p.2∧H p.1=none∧p.1≠X.env.locals∧p.1∉X.fs∧∀v,p.2.data≠ .cell v):Inv X pins' σ H s:=
 ⟨I.ok,I.os,I.bare,I.base,I.loc,I.cell,I.free,I.freeC,fun p hp=>(List.mem_append.mp hp).elim (fun z=>I.pin p (List.mem_append_left _ z)) (h p),I.hok,I.len⟩
theorem qO{N:List Str}(hN:N.Nodup){i j:Nat}{x:Str}(a:N[i]? =some x)(b:N[j]? =some x):i=j:=by
 obtain⟨h1,e1⟩:=List.getElem?_eq_some_iff.mp a
 obtain⟨h2,e2⟩:=List.getElem?_eq_some_iff.mp b
 exact(List.getElem_inj hN).mp (e1.trans e2.symm)
theorem vK{M:Model}{A:Around}{E:Value→Shared→Prop}{i:Nat}{x:Str}{v:V}{u:Value}{Q:Unit→Shared→Prop}(I:Inv X pins σ H s)(hN:X.N.Nodup)(hi:X.N[i]? =some x)(hx:Loc X.env.scope x)(r:RelV v u)
 (h:∀s',Inv X pins (σ.set i (some v)) H s'→(∃a,Heap.SameBut a s.heap s'.heap∧(a=X.env.locals∨X.env.cells.lookup x=some a))→Q () s')(hf:X.fn x=true∨X.env.scope.names.lookup x=some .local:=by first|exact .inl rfl|exact .inr rfl|assumption):wpAny M A (storeName X.env x u) Q E s:=by
 obtain⟨m,hn,hl⟩:=id I.loc
 have hcls:(X.env.scope.kind== .class||(X.env.scope.kind== .module&&X.env.locals != X.env.globals))=false:=by rw[I.ok.kind];rfl
 have hiσ:i<σ.length:=by rw[I.len];exact(List.getElem?_eq_some_iff.mp hi).1
 have cne:=I.cne
 have tracked:∀{a:Addr} {h':Heap},(∃o,s.heap.get? a=some o∧H a=none)→Heap.SameBut a s.heap h'→HOk X.prog X.w H h':=fun {a h'} ha hs b ob e=>by
  obtain⟨_,_,hfree⟩:=ha
  refine(I.hok b ob e).stay (fun c w' hc q=>(hs.2 c ?_).trans q) (fun _ q=>q) fun _ _ q=>q
  rintro rfl
  rcases hc with rfl|hc
  · rw[hfree] at e;cases e
  · rw[hfree] at hc;cases hc
 rcases hx with hk|hk
 · refine wpAny_storeName_local hk hn (fun h' hn' hs=> ?_) hcls
   obtain⟨oL,_,_,hoL,_⟩:=id hn
   refine h _ ⟨I.ok,I.os,I.bare,⟨fun b o e n hb hx=> ?_,fun b o e n hb hx=> ?_,I.base.free,fun b o e hx=> ?_,I.base.tups,I.base.frzs,I.base.tbls⟩,⟨_,hn',fun j y v' e1 e2 e3=> ?_⟩,fun y c e=> ?_,I.free,I.freeC,fun p hp=> ?_,tracked ⟨oL,hoL,I.free⟩ hs,by simpa using I.len⟩ ⟨_,hs, .inl rfl⟩
   · exact(hs.2 b (Nat.ne_of_lt (Nat.lt_of_lt_of_le (Heap.lt_size e) I.ok.above))).trans (I.base.keep b o e n hb hx)
   · obtain⟨sl,e1⟩:=I.base.slot b o e n hb hx
     exact⟨sl,(hs.2 b (Nat.ne_of_lt (Nat.lt_of_lt_of_le (Heap.lt_size e) I.ok.above))).trans e1⟩
   · obtain⟨o',e1⟩:=I.base.there b o e hx
     exact⟨o',(hs.2 b (Nat.ne_of_lt (Nat.lt_of_lt_of_le (Heap.lt_size e) I.ok.above))).trans e1⟩
   · by_cases hj:j=i
     · subst hj
       rw[hi] at e1;cases e1
       rw[List.getElem?_set_self hiσ] at e2
       cases e2
       exact⟨u,r, .inl ⟨hk,by simp⟩⟩
     · rw[List.getElem?_set_ne (Ne.symm hj)] at e2
       obtain⟨u',r',q⟩:=hl j y v' e1 e2 e3
       refine⟨u',r', ?_⟩
       rcases q with⟨k,e⟩|⟨k,c,e,z⟩
       · refine .inl ⟨k, ?_⟩
         have:y≠x:=fun e=>hj (qO hN e1 (e▸hi))
         simp[this,e]
       · exact .inr ⟨k,c,e,z.sameBut hs (cne y c e)⟩
   · obtain⟨w',z⟩:=I.cell y c e
     exact⟨w',z.sameBut hs (cne y c e)⟩
   · obtain⟨e,n,ne,nf,d⟩:=I.pin p hp
     exact⟨(hs.2 p.1 ne).trans e,n,ne,nf,d⟩
 · have hfn:X.fn x=true:=by
    rcases hf with z|z
    · exact z
    · rw[z] at hk;cases hk
   obtain⟨c,hc⟩:=I.ok.has x (.inl hk)
   obtain⟨w',z⟩:=I.cell x c hc
   refine wpAny_storeName_cell I.ok.kind hk hc z (fun h' hc' hs=> ?_)
   obtain⟨oc,hoc,hocd⟩:=id z
   refine h {s with heap:=h'} ⟨I.ok,I.os,I.bare,⟨fun b o e n hb hx=> ?_,fun b o e n hb hx=> ?_,I.base.free,fun b o e hx=> ?_,I.base.tups,I.base.frzs,I.base.tbls⟩,⟨m,hn.sameBut hs (Ne.symm (cne x c hc)),fun j y v' e1 e2 e3=> ?_⟩,fun y c' e=> ?_,I.free,I.freeC,fun p hp=> ?_,tracked ⟨oc,hoc,I.freeC x c hc⟩ hs,by simpa using I.len⟩ ⟨c,hs, .inr hc⟩
   · exact(hs.2 b (Nat.ne_of_lt (Nat.lt_of_lt_of_le (Heap.lt_size e) (I.ok.cab x c hfn hc)))).trans (I.base.keep b o e n hb hx)
   · obtain⟨sl,e1⟩:=I.base.slot b o e n hb hx
     exact⟨sl,(hs.2 b (Nat.ne_of_lt (Nat.lt_of_lt_of_le (Heap.lt_size e) (I.ok.cab x c hfn hc)))).trans e1⟩
   · obtain⟨o',e1⟩:=I.base.there b o e hx
     exact⟨o',(hs.2 b (Nat.ne_of_lt (Nat.lt_of_lt_of_le (Heap.lt_size e) (I.ok.cab x c hfn hc)))).trans e1⟩
   · by_cases hj:j=i
     · subst hj
       rw[hi] at e1;cases e1
       rw[List.getElem?_set_self hiσ] at e2
       cases e2
       exact⟨u,r, .inr ⟨.inl hk,c,hc,hc'⟩⟩
     · rw[List.getElem?_set_ne (Ne.symm hj)] at e2
       obtain⟨u',r',q⟩:=hl j y v' e1 e2 e3
       refine⟨u',r', ?_⟩
       rcases q with q|⟨k,c',e,z'⟩
       · exact .inl q
       · refine .inr ⟨k,c',e,z'.sameBut hs ?_⟩
         rintro rfl
         exact hj (qO hN e1 (I.ok.inj _ _ _ e hc▸hi))
   · by_cases hcc:c'=c
     · subst hcc;exact⟨_,hc'⟩
     · obtain⟨w2,z2⟩:=I.cell y c' e
       exact⟨w2,z2.sameBut hs hcc⟩
   · obtain⟨e,n,ne,nf,d⟩:=I.pin p hp
     refine⟨(hs.2 p.1 ?_).trans e,n,ne,nf,d⟩
     intro q
     rw[q,hoc] at e
     have q':oc=p.2:=Option.some.inj e
     exact d w' (by rw[←q'];exact hocd)
theorem kQ{M:Model}{A:Around}{E:Value→Shared→Prop}{i:Nat}{x:Str}{v:V}{u:Value}{Q:Unit→Shared→Prop}(I:Inv X pins σ H s)(hN:X.N.Nodup)(hi:X.N[i]? =some x)(hx:Loc X.env.scope x)(r:RelV v u)
 (h:∀s',Inv X pins (σ.set i (some v)) H s'→Q () s')(hf:X.fn x=true∨X.env.scope.names.lookup x=some .local:=by first|exact .inl rfl|exact .inr rfl|assumption):wpAny M A (storeName X.env x u) Q E s:=
 vK I hN hi hx r (fun s' I' _=>h s' I') hf
theorem Inv.call'{s':Shared}{ch:List Addr}(I:Inv X pins σ H s)(ho:s'.os=s.os)(u:Un (frs X.stack) ch H H' s.heap s'.heap)(hok:HOk X.prog X.w H' s'.heap)(hg:AllBare s'.gens)
 (hch:∀b∈ch,(b∈X.ex∨X.s₀.heap.objs.size≤b)∧b≠X.env.locals∧(∀x c,X.env.cells.lookup x=some c→c≠b)∧∀p∈X.pn++pins,p.1≠b):Inv X pins σ H' s':=by
 obtain⟨h',g',d',t',o'⟩:=s'
 have e:o'=s.os:=ho
 subst e
 exact I.call (g':=g') (t':=t') (d':=d') u hok hg hch
end
abbrev XK:=Value→Option Addr→Hp→Prop
abbrev St:=List (Option V)
abbrev VK:=V→Hp→Prop
abbrev TE:=St→Hp→VK→Prop
abbrev TT:=St→Hp→(Bool→Hp→Prop)→Prop
abbrev TA:=St→Hp→(List V→Hp→Prop)→Prop
structure Ends where
 nx:St→Hp→Prop
 rt:VK
 bk:St→Hp→Prop:=fun _ _=>False
 ct:St→Hp→Prop:=fun _ _=>False
abbrev TS:=Ends→St→Hp→Prop
def EP(X:Cx)(pins:List (Addr×Obj))(σ:St)(Q:VK)(u:Value)(s':Shared):Prop:=∃v H',Inv X pins σ H' s'∧RelV v u∧Q v H'
def TP(X:Cx)(pins:List (Addr×Obj))(σ:St)(Q:Bool→Hp→Prop)(b:Bool)(s':Shared):Prop:=∃H',Inv X pins σ H' s'∧Q b H'
def AP(X:Cx)(pins:List (Addr×Obj))(σ:St)(Q:List V→Hp→Prop)(us:List Value)(s':Shared):Prop:=∃vs H',Inv X pins σ H' s'∧Vals vs us∧Q vs H'
def SP(X:Cx)(pins:List (Addr×Obj))(D:Ends)(f:Flow)(s':Shared):Prop:=
 match f with
 | .next=>∃σ' H',Inv X pins σ' H' s'∧D.nx σ' H'
 | .brk=>∃σ' H',Inv X pins σ' H' s'∧D.bk σ' H'
 | .cont=>∃σ' H',Inv X pins σ' H' s'∧D.ct σ' H'
 | .ret u=>∃v σ' H',Inv X pins σ' H' s'∧RelV v u∧D.rt v H'
def PE(X:Cx)(e:Expr)(t:TE):Prop:=
 ∀(pins:List (Addr×Obj)) (s:Shared) (σ:St) (H:Hp) (Q:VK),Inv X pins σ H s→t σ H Q→wpAny (model X.prog X.w) X.A (eval e X.env) (EP X pins σ Q) X.xe s
def PT(X:Cx)(e:Expr)(t:TT):Prop:=
 ∀(pins:List (Addr×Obj)) (s:Shared) (σ:St) (H:Hp) (Q:Bool→Hp→Prop),Inv X pins σ H s→t σ H Q→wpAny (model X.prog X.w) X.A (isTrue e X.env (eval e X.env)) (TP X pins σ Q) X.xe s
def PW(X:Cx)(e:Expr)(t:TT):Prop:=
 ∀(whole:Sem Value) (pins:List (Addr×Obj)) (s:Shared) (σ:St) (H:Hp) (Q:Bool→Hp→Prop),Inv X pins σ H s→t σ H Q→wpAny (model X.prog X.w) X.A (isTrue e X.env whole) (TP X pins σ Q) X.xe s
theorem PW.pt{X:Cx}{e:Expr}{t:TT}(h:PW X e t):PT X e t:=h _
def PA(X:Cx)(es:List Expr)(t:TA):Prop:=
 ∀(pos:Pos) (pins:List (Addr×Obj)) (s:Shared) (σ:St) (H:Hp) (Q:List V→Hp→Prop),Inv X pins σ H s→t σ H Q→wpAny (model X.prog X.w) X.A (spliced (backTo pos (starEach es X.env))) (AP X pins σ Q) X.xe s
def PS(X:Cx)(st:Stmt)(t:TS):Prop:=
 ∀(pins:List (Addr×Obj)) (s:Shared) (σ:St) (H:Hp) (D:Ends),Inv X pins σ H s→t D σ H→wpAny (model X.prog X.w) X.A (exec st X.env) (SP X pins D) X.xe s
def PSs(X:Cx)(st:List Stmt)(t:TS):Prop:=
 ∀(pins:List (Addr×Obj)) (s:Shared) (σ:St) (H:Hp) (D:Ends),Inv X pins σ H s→t D σ H→wpAny (model X.prog X.w) X.A (execs st X.env) (SP X pins D) X.xe s
theorem thn{α:Type}{t:Sem α}{Q Q':α→Shared→Prop}{M:Model}{A:Around}{E:Value→Shared→Prop}{s:Shared}(h:wpAny M A t Q E s)(hQ:∀a s,Q a s→Q' a s):wpAny M A t Q' E s:=wpAny_mono h hQ fun _ _ x=>x
end L2
namespace L2
open PySem PySem.Spec PyProof.Rows
section
variable{X:Cx}
def oY(i:Nat):TE:=fun σ H Q=>∃v,σ[i]? =some (some v)∧Q v H
def tC(v:V):TE:=fun _ H Q=>Q v H
theorem AM{i:Nat}{x:Str}{pos:Pos}(hN:X.N[i]? =some x)(hv:Vis X.env.scope x)(hd:(x==("__debug__":Str))=false:=by decide)(hcd:(x==("__classdict__":Str))=false:=by decide):PE X (.Name x pos) (oY i):=by
 intro pins s σ H Q I h
 obtain⟨v,e,h⟩:=h
 obtain⟨m,hn,hl⟩:=I.loc
 obtain⟨u,r,l⟩:=hl i x v hN e hv
 have fin:EP X pins σ Q u s:=⟨v,H,I,r,h⟩
 rcases l with⟨hk,hm⟩|⟨hk,c,hc,hcell⟩
 · exact wpAny_Name (wpAny_loadName_local I.ok.kind hk hn hm fin) hd
 · rcases hk with hk|hk
   · exact wpAny_Name (wpAny_loadName_cell I.ok.kind hk hc hcell fin) hd
   · exact wpAny_Name (wpAny_loadName_free I.ok.kind hk hc hcell fin hcd) hd
theorem ai{i j pos}:PE X (.Constant (.int i) j pos) (tC (.int i)):=fun _ _ _ H _ I h=>wpAny_Constant_int ⟨.int i,H,I.tok _,⟨_,rfl⟩,h⟩
theorem fR{b j pos}:PE X (.Constant (.bool b) j pos) (tC (.bl b)):=fun _ _ _ H _ I h=>Constant_bool ⟨.bl b,H,I,rfl,h⟩
theorem wj{j pos}:PE X (.Constant .none j pos) (tC .non):=fun _ _ _ H _ I h=>Constant_none ⟨.non,H,I,rfl,h⟩
theorem AN{x j pos}:PE X (.Constant (.str x) j pos) (tC (.str x)):=fun _ _ _ H _ I h=>Calls.Constant_str ⟨.str x,H,I.tok _,⟨_,rfl⟩,h⟩
def Gl(X:Cx)(x:Str):Prop:=X.env.kindOf x=some .globalImplicit
theorem oZ{E:Value→Shared→Prop}{pins:List (Addr×Obj)}{s:Shared}{σ:St}{H:Hp}{x:Str}{u:Value}{pos:Pos}{Q:Value→Shared→Prop}(I:Inv X pins σ H s)(hg:Gl X x)(hm:X.mg x=some u)(h:Q u s)
 (hd:(x==("__debug__":Str))=false:=by decide):wpAny (model X.prog X.w) X.A (eval (.Name x pos) X.env) Q E s:=
 Calls.Name_function_global I.ok.kind hg (Calls.loadGlobal_global (by rw[I.ok.glob];exact I.mod.glob.keeps I.bk) hm h) hd
theorem mW{E:Value→Shared→Prop}{pins:List (Addr×Obj)}{s:Shared}{σ:St}{H:Hp}{x:Str}{u:Value}{pos:Pos}{Q:Value→Shared→Prop}(I:Inv X pins σ H s)(hg:Gl X x)(hm:X.mg x=none)(hv:bootBuiltins x=some u)(h:Q u s)
 (hn:x≠"__name__":=by decide)(hd:(x==("__debug__":Str))=false:=by decide):wpAny (model X.prog X.w) X.A (eval (.Name x pos) X.env) Q E s:=by
 obtain⟨mb,h1,h2⟩:=I.mod.blt
 exact Calls.Name_function_global I.ok.kind hg (Calls.loadGlobal_builtin (by rw[I.ok.glob];exact I.mod.glob.keeps I.bk) hm (by rw[I.ok.blt];exact h1.keeps I.bk) ((h2 x hn).trans hv) h) hd
theorem ym{x:Str}{v:V}{u:Value}{pos:Pos}(hg:Gl X x)(hm:X.mg x=some u)(r:RelV v u)(hd:(x==("__debug__":Str))=false:=by decide):PE X (.Name x pos) (tC v):=
 fun _ _ _ H _ I h=>oZ I hg hm ⟨v,H,I,r,h⟩ hd
theorem gK{x:Str}{v:V}{u:Value}{pos:Pos}(hg:Gl X x)(hm:X.mg x=none)(hv:bootBuiltins x=some u)(r:RelV v u)(hn:x≠"__name__":=by decide)(hd:(x==("__debug__":Str))=false:=by decide):PE X (.Name x pos) (tC v):=
 fun _ _ _ H _ I h=>mW I hg hm hv ⟨v,H,I,r,h⟩ hn hd
variable{a b:Expr}{ta tb:TE}{pos:Pos}
def tB(t:TE):TT:=fun σ H Q=>t σ H fun x H1=>∃c,x= .bl c∧Q c H1
theorem fU{e:Expr}{t:TE}(h:PE X e t)(he:∀whole,isTrue e X.env whole=(do let v ←whole;standAt e.pos;holding [v] (truthy v)):=by intro _;rfl):PT X e (tB t):=by
 intro pins s σ H Q I hw
 refine isTrue_plain (thn (h pins s σ H _ I hw) fun v s1 ⟨x,H1,I1,r1,q1⟩=> ?_) (he _)
 obtain⟨d,rfl,q⟩:=q1
 cases r1
 exact wpAny_truthy_bool ⟨H1,I1,q⟩
variable{tA tB':TT}{h9:List Expr}
def Cq(t u:TT):TT:=fun σ H Q=>t σ H fun c H1=>if c=true then u σ H1 Q else Q false H1
def tOr(t u:TT):TT:=fun σ H Q=>t σ H fun c H1=>if c=true then Q true H1 else u σ H1 Q
def Ct(t:TT):TT:=fun σ H Q=>t σ H fun c H1=>Q (!c) H1
theorem kR(ha:PT X a tA):PW X (.BoolOp .And [a] pos) tA:=by
 intro wh pins s σ H Q I h
 refine isTrue_and (thn (ha pins s σ H Q I h) fun c s1 e=> ?_)
 cases c with
 |true=>exact isTrue_and_nil e
 |false=>exact e
theorem sR(ha:PT X a tA):PW X (.BoolOp .Or [a] pos) tA:=by
 intro wh pins s σ H Q I h
 refine isTrue_or (thn (ha pins s σ H Q I h) fun c s1 e=> ?_)
 cases c with
 |false=>exact isTrue_or_nil e
 |true=>exact e
theorem mX(ha:PT X a tA)(hb:PW X (.BoolOp .And (b::h9) pos) tB'):PW X (.BoolOp .And (a::b::h9) pos) (Cq tA tB'):=by
 intro wh pins s σ H Q I h
 refine isTrue_and (thn (ha pins s σ H _ I h) fun c s1 ⟨H1,I1,q1⟩=> ?_)
 cases c with
 |true=>exact hb wh pins s1 σ H1 Q I1 q1
 |false=>exact⟨H1,I1,q1⟩
theorem ur(ha:PT X a tA)(hb:PW X (.BoolOp .Or (b::h9) pos) tB'):PW X (.BoolOp .Or (a::b::h9) pos) (tOr tA tB'):=by
 intro wh pins s σ H Q I h
 refine isTrue_or (thn (ha pins s σ H _ I h) fun c s1 ⟨H1,I1,q1⟩=> ?_)
 cases c with
 |true=>exact⟨H1,I1,q1⟩
 |false=>exact hb wh pins s1 σ H1 Q I1 q1
theorem kI(ha:PT X a tA):PT X (.UnaryOp .Not a pos) (Ct tA):=by
 intro pins s σ H Q I h
 exact isTrue_not (ha pins s σ H (fun c H1=>Q (!c) H1) I h)
def zS(ta tb:TE):TE:=fun σ H Q=>ta σ H fun x H1=>∃c,x= .bl c∧if c=true then tb σ H1 Q else Q (.bl false) H1
def zT(ta:TE):TE:=fun σ H Q=>ta σ H fun x H1=>∃c,x= .bl c∧Q (.bl (!c)) H1
theorem wk{op}{t:TE}(h:PE X a t):PE X (.BoolOp op [a] pos) t:=fun pins s σ H Q I hw=>BoolOp_one (h pins s σ H Q I hw)
theorem sV(ha:PE X a ta)(hb:PE X (.BoolOp .And (b::h9) pos) tb):PE X (.BoolOp .And (a::b::h9) pos) (zS ta tb):=by
 intro pins s σ H Q I h
 refine BoolOp_and (thn (ha pins s σ H _ I h) fun v s1 ⟨x,H1,I1,r1,q1⟩=> ?_)
 obtain⟨c,rfl,q1⟩:=q1
 cases r1
 refine wpAny_truthy_bool ?_
 cases c with
 |true=>exact hb pins s1 σ H1 Q I1 q1
 |false=>exact⟨.bl false,H1,I1,rfl,q1⟩
theorem AO(ha:PE X a ta):PE X (.UnaryOp .Not a pos) (zT ta):=by
 intro pins s σ H Q I h
 refine UnaryOp_ (thn (ha pins s σ H _ I h) fun v s1 ⟨x,H1,I1,r1,q1⟩=> ?_)
 obtain⟨c,rfl,q1⟩:=q1
 cases r1
 exact not_of (wpAny_truthy_bool ⟨.bl (!c),H1,I1,rfl,q1⟩)
def tIf(t:TT)(ta tb:TE):TE:=fun σ H Q=>t σ H fun c H1=>if c=true then ta σ H1 Q else tb σ H1 Q
theorem wl{c:Expr}(hc:PT X c tA)(ha:PE X a ta)(hb:PE X b tb):PE X (.IfExp c a b pos) (tIf tA ta tb):=by
 intro pins s σ H Q I h
 refine wpAny_IfExp (thn (hc pins s σ H _ I h) fun d s1 ⟨H1,I1,q1⟩=> ?_)
 cases d with
 |true=>exact ha pins s1 σ H1 Q I1 q1
 |false=>exact hb pins s1 σ H1 Q I1 q1
end
def SqL(K:W.Frag)(H:Hp)(a:Addr)(xs:List V):Prop:=
 Rd H a (.lst xs)∨
  ∃(o:Obj) (its:Array Value) (n:Nat),K.lookup a=some o∧o.cls= .type "list"∧o.dict=none∧o.data= .seq its n∧its.size≤sizeLine∧Vals xs its.toList
def SqT(K:W.Frag)(H:Hp)(a:Addr)(xs:List V):Prop:=
 Rd H a (.tup xs)∨
  ∃(o:Obj) (its:Array Value) (n:Nat),K.lookup a=some o∧o.cls= .type "tuple"∧o.data= .seq its n∧its.size≤sizeLine∧Vals xs its.toList
def D1:Value→Option V
 | .none=>some .non
 | .bool b=>some (.bl b)
 | .int i _=>some (.int i)
 | .str x _=>some (.str x)
 | .bytes b _=>some (.byt b)
 | .float b _=>some (.flt b)
 | .ref a=>some (.ref a)
 | .type n=>some (.ty n)
 |_=>none
theorem RelV.abs{x:V}{u:Value}(r:RelV x u):D1 u=some x:=by
 cases x with
 |non=>cases r;rfl
 |bl _=>cases r;rfl
 |int _=>obtain⟨t,rfl⟩:=r;rfl
 |str _=>obtain⟨t,rfl⟩:=r;rfl
 |byt _=>obtain⟨t,rfl⟩:=r;rfl
 |flt _=>obtain⟨t,rfl⟩:=r;rfl
 |ref _=>cases r;rfl
 |ty _=>cases r;rfl
theorem RelV.inj{x y:V}{u:Value}(r:RelV x u)(q:RelV y u):x=y:=Option.some.inj (r.abs.symm.trans q.abs)
theorem Vals.inj:∀{xs ys:List V} {us:List Value},Vals xs us→Vals ys us→xs=ys
 |_,_,_, .nil, .nil=>rfl
 |_,_,_, .cons r t, .cons r' t'=>by rw[r.inj r',Vals.inj t t']
section
variable{X:Cx}{pins:List (Addr×Obj)}{σ:St}{H:Hp}{s:Shared}{a:Addr}{xs ys:List V}
theorem SqL.of{K:W.Frag}(h:H a=some (.lst xs)):SqL K H a xs:= .inl (.inl h)
theorem SqT.of{K:W.Frag}(h:H a=some (.tup xs)):SqT K H a xs:= .inl (.inl h)
theorem Inv.list(I:Inv X pins σ H s)(h:SqL X.K H a xs):∃its:List Value,Vals xs its∧PlainL s.heap a its.toArray∧xs.length≤sizeLine:=by
 rcases h with h|⟨o,its,n,hk,hc,hd,hs,hz,r⟩
 · obtain⟨z,its,n,r,e⟩:=h.ok I.hok
   exact⟨its,r,⟨_,n,e,rfl,rfl,rfl⟩,z⟩
 · refine⟨its.toList,r,⟨o,n,I.kIn a o hk,hc,hd,by simpa using hs⟩, ?_⟩
   have e:=r.length
   simp only[Array.length_toList] at e
   omega
theorem Inv.tuple(I:Inv X pins σ H s)(h:SqT X.K H a xs):∃its:List Value,Vals xs its∧IsTup s.heap a its.toArray∧xs.length≤sizeLine:=by
 rcases h with h|⟨o,its,n,hk,hc,hs,hz,r⟩
 · obtain⟨z,its,r,p⟩:=h.ok I.hok
   exact⟨its,r,p,z⟩
 · refine⟨its.toList,r,⟨o,I.kIn a o hk,hc,n,by simpa using hs⟩, ?_⟩
   have e:=r.length
   simp only[Array.length_toList] at e
   omega
theorem Inv.list_inj(I:Inv X pins σ H s)(h:SqL X.K H a xs)(h':SqL X.K H a ys):xs=ys:=by
 obtain⟨its,r,⟨o,n,e,_,_,d⟩,_⟩:=I.list h
 obtain⟨its',r',⟨o',n',e',_,_,d'⟩,_⟩:=I.list h'
 rw[e] at e';cases e'
 rw[d] at d'
 injection d' with d1 _
 have:its=its':=by simpa using congrArg Array.toList d1
 subst this
 exact r.inj r'
theorem Inv.tuple_inj(I:Inv X pins σ H s)(h:SqT X.K H a xs)(h':SqT X.K H a ys):xs=ys:=by
 obtain⟨its,r,⟨o,e,_,n,d⟩,_⟩:=I.tuple h
 obtain⟨its',r',⟨o',e',_,n',d'⟩,_⟩:=I.tuple h'
 rw[e] at e';cases e'
 rw[d] at d'
 injection d' with d1 _
 have:its=its':=by simpa using congrArg Array.toList d1
 subst this
 exact r.inj r'
end
abbrev Cx.wish(X:Cx)(E:Value→Shared→Prop):Cx:={X with xe:=E}
abbrev Cx.nox(X:Cx):Cx:=X.wish fun _ _=>False
theorem Cx.Ok.wish{X:Cx}(ok:X.Ok)(E:Value→Shared→Prop):(X.wish E).Ok:=
 ⟨ok.mod,ok.kind,ok.glob,ok.blt,ok.above,ok.inj,ok.has,ok.cab,ok.hd,ok.frames,ok.stk,ok.exf,ok.bs,ok.bsz,ok.noex,ok.exfs,ok.funs,ok.frf⟩
theorem Cx.Ok.unwish{X:Cx}{E:Value→Shared→Prop}(ok:(X.wish E).Ok):X.Ok:=
 ⟨ok.mod,ok.kind,ok.glob,ok.blt,ok.above,ok.inj,ok.has,ok.cab,ok.hd,ok.frames,ok.stk,ok.exf,ok.bs,ok.bsz,ok.noex,ok.exfs,ok.funs,ok.frf⟩
section
variable{X:Cx}{pins:List (Addr×Obj)}{σ:St}{H:Hp}{s:Shared}{E:Value→Shared→Prop}
theorem Inv.wish(I:Inv X pins σ H s)(E:Value→Shared→Prop):Inv (X.wish E) pins σ H s:=⟨I.ok.wish E,I.os,I.bare,I.base,I.loc,I.cell,I.free,I.freeC,I.pin,I.hok,I.len⟩
theorem Inv.unwish(I:Inv (X.wish E) pins σ H s):Inv X pins σ H s:=⟨I.ok.unwish,I.os,I.bare,I.base,I.loc,I.cell,I.free,I.freeC,I.pin,I.hok,I.len⟩
theorem SP.unwish{D:Ends}{f:Flow}{s':Shared}(h:SP (X.wish E) pins D f s'):SP X pins D f s':=by
 cases f with
 |next=>obtain⟨σ',H',I,q⟩:=h;exact⟨σ',H',I.unwish,q⟩
 |brk=>obtain⟨σ',H',I,q⟩:=h;exact⟨σ',H',I.unwish,q⟩
 |cont=>obtain⟨σ',H',I,q⟩:=h;exact⟨σ',H',I.unwish,q⟩
 |ret u=>obtain⟨v,σ',H',I,r,q⟩:=h;exact⟨v,σ',H',I.unwish,r,q⟩
theorem PSs.nox{st:List Stmt}{t:TS}(h:PSs X.nox st t):PSs X st t:=fun pins s σ H D I hw=>
 wpAny_mono (h pins s σ H D (I.wish _) hw) (fun _ _ q=>q.unwish) fun _ _ z=>False.elim z
end
section
variable{X:Cx}{st:Stmt}{h9:List Stmt}{t u:TS}{e:Expr}{te:TE}{pos:Pos}
def zU:TS:=fun D σ H=>D.nx σ H
def AQ(t u:TS):TS:=fun D σ H=>t {D with nx:=u D} σ H
theorem bh:PSs X [] zU:=fun _ _ σ H _ I h=>wpAny_execs_nil ⟨σ,H,I,h⟩
theorem al(h1:PS X st t)(h2:PSs X h9 u):PSs X (st::h9) (AQ t u):=by
 intro pins s σ H D I h
 refine wpAny_execs_cons (thn (h1 pins s σ H {D with nx:=u D} I h) fun f s1 q=> ?_)
 cases f with
 |next=>
  obtain⟨σ',H',I',q⟩:=q
  exact h2 pins s1 σ' H' D I' q
 |ret v=>exact q
 |brk=>exact q
 |cont=>exact q
theorem ar(h1:PS X st t):PSs X [st] t:=by
 intro pins s σ H D I h
 refine wpAny_execs_cons (thn (h1 pins s σ H D I h) fun f s1 q=> ?_)
 cases f with
 |next=>exact wpAny_execs_nil q
 |ret v=>exact q
 |brk=>exact q
 |cont=>exact q
theorem Inv.quiet{pins:List (Addr×Obj)}{σ:St}{H:Hp}{s:Shared}(I:Inv X pins σ H s):interactive X.env=false:=by simp[interactive,I.ok.kind]
def ut(te:TE):TS:=fun D σ H=>te σ H fun _ H1=>D.nx σ H1
theorem dU(he:PE X e te)(hs:swapsWith e none pos.line X.env=pure false:=by rfl):PS X (.Expr e pos) (ut te):=by
 intro pins s σ H D I h
 exact wpAny_Expr_any (thn (he pins s σ H _ I h) fun v s1 ⟨x,H1,I1,r1,q1⟩=>⟨σ,H1,I1,q1⟩) I.quiet hs
def yn(te:TE):TS:=fun D σ H=>te σ H D.rt
theorem aK(he:PE X e te):PS X (.Return (some e) pos) (yn te):=by
 intro pins s σ H D I h
 exact wpAny_Return_some (thn (he pins s σ H _ I h) fun v s1 ⟨x,H1,I1,r1,q1⟩=>⟨x,σ,H1,I1,r1,q1⟩)
def Cu(c:TT)(t u:TS):TS:=fun D σ H=>c σ H fun b H1=>if b=true then t D σ H1 else u D σ H1
theorem cY{c:Expr}{a b:List Stmt}{tc:TT}(hc:PT X c tc)(ha:PSs X a t)(hb:PSs X b u):PS X (.If c a b pos) (Cu tc t u):=by
 intro pins s σ H D I h
 refine wpAny_If (thn (hc pins s σ H _ I h) fun d s1 ⟨H1,I1,q1⟩=> ?_)
 cases d with
 |true=>exact ha pins s1 σ H1 D I1 q1
 |false=>exact hb pins s1 σ H1 D I1 q1
end
abbrev TG:=V→St→Hp→(St→Hp→Prop)→Prop
abbrev TGs:=List V→St→Hp→(St→Hp→Prop)→Prop
def PG(X:Cx)(target:Expr)(t:TG):Prop:=
 ∀(pins:List (Addr×Obj)) (s:Shared) (σ:St) (H:Hp) (v:V) (u:Value) (Q:St→Hp→Prop),Inv X pins σ H s→RelV v u→t v σ H Q→
  wpAny (model X.prog X.w) X.A (assign target X.env u) (fun _ s'=>∃σ' H',Inv X pins σ' H' s'∧Q σ' H') X.xe s
def PGs(X:Cx)(ts:List Expr)(t:TGs):Prop:=
 ∀(pins:List (Addr×Obj)) (s:Shared) (σ:St) (H:Hp) (vs:List V) (us:List Value) (Q:St→Hp→Prop),Inv X pins σ H s→Vals vs us→t vs σ H Q→
  wpAny (model X.prog X.w) X.A (assignInOrder ((assignEach ts X.env).map (·.2)) us) (fun _ s'=>∃σ' H',Inv X pins σ' H' s'∧Q σ' H') X.xe s
section
variable{X:Cx}{pos:Pos}
def jI(i:Nat):TG:=fun v σ H Q=>Q (σ.set i (some v)) H
theorem aF{i:Nat}{x:Str}(hN:X.N.Nodup)(hi:X.N[i]? =some x)(hx:Loc X.env.scope x)(hf:X.fn x=true∨X.env.scope.names.lookup x=some .local:=by first|exact .inl rfl|exact .inr rfl|assumption):PG X (.Name x pos) (jI i):=by
 intro pins s σ H v u Q I r h
 exact wpAny_assign_Name (kQ I hN hi hx r (fun s' I'=>⟨_,H,I',h⟩) hf)
def AR:TGs:=fun vs σ H Q=>vs=[]∧Q σ H
def wm(t:TG)(u:TGs):TGs:=fun vs σ H Q=>∃v r,vs=v::r∧t v σ H fun σ' H'=>u r σ' H' Q
theorem dW:PGs X [] AR:=by
 intro pins s σ H vs us Q I r h
 obtain⟨e,h⟩:=h
 subst e
 cases r
 exact assignInOrder_nil ⟨σ,H,I,h⟩
theorem aE{e:Expr}{es:List Expr}{t:TG}{u:TGs}(h1:PG X e t)(h2:PGs X es u)
 (hs:(assignEach (e::es) X.env).map (·.2)=assign e X.env::(assignEach es X.env).map (·.2):=by rfl):PGs X (e::es) (wm t u):=by
 intro pins s σ H vs us Q I r h
 obtain⟨v,vr,e1,h⟩:=h
 subst e1
 cases r with
 |cons r rr=>
  rw[hs]
  refine assignInOrder_cons (thn (h1 pins s σ H _ _ _ I r h) fun _ s1 ⟨σ1,H1,I1,q1⟩=> ?_)
  exact h2 pins s1 σ1 H1 _ _ Q I1 rr q1
def yo(K:W.Frag)(n:Nat)(t:TGs):TG:=fun v σ H Q=>∃a xs,v= .ref a∧SqT K H a xs∧xs.length=n∧t xs σ H Q
theorem iM{es:List Expr}{k:Nat}{t:TGs}{n:Nat}(hc:X.calm=true)(h:PGs X es t)
 (hn:(assignEach es X.env).length=n:=by rfl)(hst:(assignEach es X.env).findIdx? (·.1)=none:=by rfl):PG X (.Tuple es k pos) (yo X.K n t):=by
 intro pins s σ H v u Q I r hw
 obtain⟨a,xs,e1,hq,hl,hw⟩:=hw
 subst e1
 cases r
 obtain⟨its,rv,ht,hz⟩:=I.tuple hq
 refine assign_Tuple_tuple (I.ok.hd hc) ht (by simp[hn,←hl,rv.length]) hst fun h' hx=> ?_
 have I1:Inv X pins σ H {s with heap:=h'}:=I.kept (t':=s.toks) fun b o e=>hx b o (Nat.ne_of_lt (Heap.lt_size e)) e
 exact h pins _ σ H xs _ Q I1 (by simpa using rv) hw
def qP(te:TE)(g:TG):TS:=fun D σ H=>te σ H fun x H1=>g x σ H1 D.nx
theorem wn{tg e:Expr}{te:TE}{g:TG}(he:PE X e te)(hg:PG X tg g)(hs:swapsWithSole [tg] e pos.line X.env=pure false:=by rfl)(hw:swappedStores [tg] e X.env=pure none:=by rfl)
 (h1:(assignEach [tg] X.env).map (·.2)=[assign tg X.env]:=by rfl):PS X (.Assign [tg] e pos) (qP te g):=by
 intro pins s σ H D I h
 refine wpAny_Assign_stores (thn (he pins s σ H _ I h) fun v s1 ⟨x,H1,I1,r1,q1⟩=> ?_) hs hw
 rw[h1]
 exact thn (hg pins s1 σ H1 x v _ I1 r1 q1) fun _ s2 q=>q
theorem ay{i:Nat}{x:Str}{e:Expr}{te:TE}{pos':Pos}(hN:X.N.Nodup)(hi:X.N[i]? =some x)(hx:Loc X.env.scope x)(he:PE X e te)(hs:swapsWith e (some (.Name x pos')) pos.line X.env=pure false:=by rfl)(hf:X.fn x=true∨X.env.scope.names.lookup x=some .local:=by first|exact .inl rfl|exact .inr rfl|assumption):
 PS X (.Assign [.Name x pos'] e pos) (qP te (jI i)):=by
 intro pins s σ H D I h
 refine wpAny_Assign_Name (thn (he pins s σ H _ I h) fun v s1 ⟨y,H1,I1,r1,q1⟩=> ?_) hs
 exact kQ I1 hN hi hx r1 (fun s2 I2=>⟨_,H1,I2,q1⟩) hf
def Cv(i j:Nat)(ta:TA):TS:=fun D σ H=>ta σ H fun vs H1=>∃v w,vs=[v,w]∧D.nx ((σ.set i (some v)).set j (some w)) H1
theorem AS{i j:Nat}{x y:Str}{a b:Expr}{ta:TA}{px py pt:Pos}{kt k2 pt2}(hc:X.calm=true)(hN:X.N.Nodup)(hi:X.N[i]? =some x)(hj:X.N[j]? =some y)(hij:i≠j)
 (hx:X.env.scope.names.lookup x=some .local)(hy:X.env.scope.names.lookup y=some .local)(ha:PA X [a,b] ta)
 (hw:swappedStores [.Tuple [.Name x px, .Name y py] kt pt] (.Tuple [a,b] k2 pt2) X.env=pure (some [x,y]))
 (hs:swapsWithSole [.Tuple [.Name x px, .Name y py] kt pt] (.Tuple [a,b] k2 pt2) pos.line X.env=pure false:=by rfl):
 PS X (.Assign [.Tuple [.Name x px, .Name y py] kt pt] (.Tuple [a,b] k2 pt2) pos) (Cv i j ta):=by
 intro pins s σ H D I h
 rw[exec_Assign_arm]
 refine wpAny_bind (wpAny_standAt ?_)
 rw[hs]
 refine wpAny_bind (wpAny_pure ?_)
 rw[if_neg (by decide)]
 refine wpAny_bind (Tuple_ (thn (ha _ pins s σ H _ I h) fun us s1 ⟨vs,H1,I1,r1,q1⟩=> ?_))
 obtain⟨v,w,e1,q1⟩:=q1
 subst e1
 obtain⟨u1,u2,rfl,rv,rw'⟩:∃u1 u2,us=[u1,u2]∧RelV v u1∧RelV w u2:=by
  cases r1 with
  |cons p q=>
   cases q with
   |cons p' q'=>
    cases q'
    exact⟨_,_,rfl,p,p'⟩
 refine wpAny_newObj_type ?_ (by show 2≤sizeLine;decide)
 have I2:Inv X pins σ H1 {s1 with heap:=s1.heap.push {cls:= .type "tuple",data:= .seq [u1,u2].toArray}}:=I1.kept (t':=s1.toks) fun b o e=>Heap.get?_push_of_some _ e
 rw[hw]
 refine wpAny_bind (wpAny_pure ?_)
 show wpAny (model X.prog X.w) X.A (do rule "assign.swapped-stores";let items ←unpackItems (.ref s1.heap.objs.size) 2 none;assignInOrder [fun v=>bindName X.env y v,fun v=>bindName X.env x v] items.reverse;pure Flow.next) _ _ _
 refine wpAny_bind (wpAny_rule (wpAny_bind (unpackItems_tuple (items:= #[u1,u2]) (I.ok.hd hc) (IsTup.new s1.heap _) fun h' hx'=> ?_)))
 have I3:=I2.kept (h':=h') (t':=s1.toks) fun b o e=>hx' b o (Nat.ne_of_lt (Heap.lt_size e)) e
 show wpAny _ _ (assignInOrder [fun v=>bindName X.env y v,fun v=>bindName X.env x v] [u2,u1]>>=fun _=>pure Flow.next) _ _ _
 refine wpAny_bind (assignInOrder_cons (wpAny_bindName (kQ I3 hN hj (.inl hy) rw' (fun s2 I4=> ?_) (.inr hy))))
 refine assignInOrder_cons (wpAny_bindName (kQ I4 hN hi (.inl hx) rv (fun s3 I5=>assignInOrder_nil (wpAny_pure ?_)) (.inr hx)))
 rw[List.set_comm _ _ (Ne.symm hij)] at I5
 exact⟨_,H1,I5,q1⟩
end
section
variable{X:Cx}{pos:Pos}
def wo(c:TT)(tb:TS):TS:=fun D σ H=>∃W:Nat→St→Hp→Prop,(∃m,W m σ H)∧∀m σ H,W m σ H→
 c σ H fun b H1=>if b=true then ∃N:St→Hp→Prop,(∀σ' H',N σ' H'→∃m',m'<m∧W m' σ' H')∧tb {D with nx:=N,ct:=N,bk:=D.nx} σ H1 else D.nx σ H1
theorem qQ{c:Expr}{body:List Stmt}{tc:TT}{tb:TS}(hp:PassesOwn (model X.prog X.w) X.A X.env X.xe)(hc:PT X c tc)(hb:PSs X body tb):PS X (.While c body [] pos) (wo tc tb):=by
 intro pins s σ H D I h
 obtain⟨W,⟨m0,w0⟩,turn⟩:=h
 refine wpAny_While (codeAny_whileLoop (fun n s'=>∃σ' H',Inv X pins σ' H' s'∧W n σ' H') ?_ m0 ⟨σ,H,I,w0⟩)
 rintro n s1 ⟨σ1,H1,I1,w1⟩
 refine wpAny_passesOwn hp (thn (hc pins s1 σ1 H1 _ I1 (turn n σ1 H1 w1)) fun b s2 ⟨H2,I2,q2⟩=> ?_)
 cases b with
 |true=>
  obtain⟨N,hN,q2⟩:=q2
  rw[if_pos rfl]
  refine wpAny_passesOwn hp (thn (hb pins s2 σ1 H2 _ I2 q2) fun f s3 q3=> ?_)
  cases f with
  |next=>
   obtain⟨σ3,H3,I3,n3⟩:=q3
   obtain⟨m',hm,w3⟩:=hN σ3 H3 n3
   exact⟨m',hm,σ3,H3,I3,w3⟩
  |cont=>
   obtain⟨σ3,H3,I3,n3⟩:=q3
   obtain⟨m',hm,w3⟩:=hN σ3 H3 n3
   exact⟨m',hm,σ3,H3,I3,w3⟩
  |brk=>exact q3
  |ret v=>exact q3
 |false=>
  rw[if_neg Bool.false_ne_true]
  exact wpAny_execs_nil ⟨σ1,H2,I2,q2⟩
end
structure It where
 go:Nat→Hp→Prop
 yld:Nat→Hp→V→Hp→Prop
 stop:Nat→Hp→Prop
def kr(X:Cx)(pins:List (Addr×Obj))(H:Hp)(b:Addr):Prop:=
 H b=none∧b≠X.env.locals∧b∉X.fs∧(b∈X.ex∨X.s₀.heap.objs.size≤b)∧(∀x c,X.env.cells.lookup x=some c→c≠b)∧∀p∈X.pn++pins,p.1≠b
theorem Inv.fpOk{X:Cx}{pins:List (Addr×Obj)}{σ:St}{H H':Hp}{s:Shared}{b:Addr}(I:Inv X pins σ H s)(hb:s.heap.objs.size≤b)(hn:H' b=none):kr X pins H' b:=by
 refine⟨hn,Nat.ne_of_gt (Nat.lt_of_lt_of_le I.lt hb),I.nofs hb, .inr (Nat.le_trans I.sz hb),fun x c e z=> ?_,fun p hp z=> ?_⟩
 · obtain⟨v,q⟩:=I.cell x c e
   exact absurd (Nat.lt_of_lt_of_le q.lt (by rw[z];exact hb)) (Nat.lt_irrefl _)
 · exact absurd (Nat.lt_of_lt_of_le (Heap.lt_size (I.pin p hp).1) (by rw[z];exact hb)) (Nat.lt_irrefl _)
structure Turn(P:Program)(w:World)(K:W.Frag)(tg:Expr)(J:It)(fp:List Addr)(it:Addr)(tn:Nat→Heap→Prop):Prop where
 mem:it∈fp
 obj:∀i h,tn i h→∀b∈fp,∃o,h.get? b=some o∧∀v,o.data≠ .cell v
 keep:∀i h h',tn i h→(∀b∈fp,∀o,h.get? b=some o→h'.get? b=some o)→tn i h'
 item:∀(X:Cx),X.prog=P→X.w=w→X.K=K→X.calm=true→∀(i:Nat) (pins:List (Addr×Obj)) (s:Shared) (σ:St) (H:Hp) (E:Value→Shared→Prop),Inv X pins σ H s→(∀b∈fp,kr X pins H b)→tn i s.heap→J.go i H→
  wpAny (model P w) X.A (pyNext (.ref it)) (fun r s1=>∃u,r=some u∧
   wpAny (model P w) X.A (letOwnedTupleGo tg (.ref it) u) (fun _ s2=>∃x H',Inv X pins σ H' s2∧RelV x u∧J.yld i H x H'∧tn (i+1) s2.heap∧∀b∈fp,H' b=none) E s1) E s
 done:∀(X:Cx),X.prog=P→X.w=w→X.K=K→X.calm=true→∀(i:Nat) (pins:List (Addr×Obj)) (s:Shared) (σ:St) (H:Hp) (E:Value→Shared→Prop),Inv X pins σ H s→(∀b∈fp,kr X pins H b)→tn i s.heap→J.stop i H→
  wpAny (model P w) X.A (pyNext (.ref it)) (fun r s1=>r=none∧Inv X pins σ H s1) E s
 self:∀(A:Around) (i:Nat) (s:Shared) (Q:Value→Shared→Prop) (E:Value→Shared→Prop),tn i s.heap→Q (.ref it) s→wpAny (model P w) A (pyIter (.ref it)) Q E s
abbrev TI:=St→Hp→(It→Hp→Prop)→Prop
def PIE(X:Cx)(pins:List (Addr×Obj))(σ:St)(tg:Expr)(R:It→Hp→Prop)(itv:Value)(s2:Shared):Prop:=
 ∃(it:Addr) (fp:List Addr) (tn:Nat→Heap→Prop) (J:It) (H':Hp),itv= .ref it∧Inv X pins σ H' s2∧Turn X.prog X.w X.K tg J fp it tn∧tn 0 s2.heap∧(∀b∈fp,kr X pins H' b)∧R J H'
def PI(X:Cx)(tg iter:Expr)(wi:TI):Prop:=
 ∀(pins:List (Addr×Obj)) (s:Shared) (σ:St) (H:Hp) (R:It→Hp→Prop),Inv X pins σ H s→wi σ H R→
  wpAny (model X.prog X.w) X.A (eval iter X.env) (fun v s1=>wpAny (model X.prog X.w) X.A (pyIter v) (PIE X pins σ tg R) X.xe s1) X.xe s
theorem uu{M:Model}{A:Around}{E:Value→Shared→Prop}{s:Shared}{tg:Expr}{it:Addr}{u:Value}{o:Obj}{n:String}{vs:Array Value}{Q:Unit→Shared→Prop}(ho:s.heap.get? it=some o)(hc:o.cls= .type n)(hd:o.data= .fields vs)
 (hn:["enumerate","zip","dict_itemiterator","dict_reverseitemiterator","odict_iterator","itertools.zip_longest","itertools.pairwise"].contains n=false)(hQ:Q () s):wpAny M A (letOwnedTupleGo tg (.ref it) u) Q E s:=by
 unfold letOwnedTupleGo
 cases tg<;>first
  |exact wpAny_pure hQ
  |(cases u<;>first
   |exact wpAny_pure hQ
   |(refine wpAny_bind (wpAny_load ho ?_)
     rw[hc,hd]
     show wpAny M A (if(["enumerate","zip","dict_itemiterator","dict_reverseitemiterator","odict_iterator","itertools.zip_longest","itertools.pairwise"].contains n&&vs[0]? ==some (rawInt _))=true then _ else _) Q E s
     rw[if_neg (by intro h;rw[hn,Bool.false_and] at h;cases h)]
     exact wpAny_pure hQ))
def Itl(K:W.Frag)(a:Addr):It:=
 ⟨fun i H=>∃xs x,SqL K H a xs∧xs[i]? =some x,fun i H x H'=>H'=H∧∀xs,SqL K H a xs→xs[i]? =some x,fun i H=>∃xs,SqL K H a xs∧xs.length≤i⟩
def Itt(K:W.Frag)(a:Addr):It:=
 ⟨fun i H=>∃xs x,SqT K H a xs∧xs[i]? =some x,fun i H x H'=>H'=H∧∀xs,SqT K H a xs→xs[i]? =some x,fun i H=>∃xs,SqT K H a xs∧xs.length≤i⟩
def Itr(lo:Int)(n:Nat):It:=⟨fun i _=>i<n,fun i H x H'=>H'=H∧x= .int (lo+i),fun i _=>n≤i⟩
theorem vL{P:Program}{w:World}{K:W.Frag}{tg:Expr}(a it:Addr):Turn P w K tg (Itl K a) [it] it (fun i h=>h.IsListIter it a i) where
 mem:=by simp
 obj:=fun i h st b hb=>by
  have e:b=it:=by simpa using hb
  subst e
  obtain⟨o,e,c,d⟩:=st
  exact⟨o,e,fun v z=>by rw[d] at z;cases z⟩
 keep:=fun i h h' st k=>st.at fun o e=>k it (by simp) o e
 item:=by
  intro X hP hw hK hc i pins s σ H E I hf st hg
  subst hP hw hK
  obtain⟨xs,x,hq,hx⟩:=hg
  obtain⟨its,rv,p,hz⟩:=I.list hq
  obtain⟨u,hu,ru⟩:=rv.get hx
  obtain⟨f0,f1,f2,f3,f4,f5⟩:=hf it (by simp)
  refine wpAny_pyNext_list_item st p.isList (x:=u) (by simpa using hu) fun h' st' sb=> ?_
  have I1:Inv X pins σ H {s with heap:=h'}:=I.turned (t':=s.toks) (fun b o hb e=>(sb.2 b hb).trans e) f0 f1 f3 f4 f5
  obtain⟨o,e,c,d⟩:=id st'
  exact⟨u,rfl,uu (s:={s with heap:=h'}) e c d (by decide) ⟨x,H,I1,ru,⟨rfl,fun ys hy=>by rw[I.list_inj hy hq];exact hx⟩,st',fun b hb=>(hf b hb).1⟩⟩
 done:=by
  intro X hP hw hK hc i pins s σ H E I hf st hg
  subst hP hw hK
  obtain⟨xs,hq,hx⟩:=hg
  obtain⟨its,rv,p,hz⟩:=I.list hq
  obtain⟨f0,f1,f2,f3,f4,f5⟩:=hf it (by simp)
  have hl:=rv.length
  exact wpAny_pyNext_list_end (I.ok.hd hc) st p.isList (by simp;omega) fun h' eb=>⟨rfl,I.turned (t':=s.toks) (fun b o hb e=>eb b o hb e) f0 f1 f3 f4 f5⟩
 self:=fun _ _ _ _ _ st h=>wpAny_pyIter_listiter st h
theorem sX{P:Program}{w:World}{K:W.Frag}{tg:Expr}(a it:Addr):Turn P w K tg (Itt K a) [it] it (fun i h=>h.IsTupleIter it a i) where
 mem:=by simp
 obj:=fun i h st b hb=>by
  have e:b=it:=by simpa using hb
  subst e
  obtain⟨o,e,c,d⟩:=st
  exact⟨o,e,fun v z=>by rw[d] at z;cases z⟩
 keep:=fun i h h' st k=>st.at fun o e=>k it (by simp) o e
 item:=by
  intro X hP hw hK hc i pins s σ H E I hf st hg
  subst hP hw hK
  obtain⟨xs,x,hq,hx⟩:=hg
  obtain⟨its,rv,p,hz⟩:=I.tuple hq
  obtain⟨u,hu,ru⟩:=rv.get hx
  obtain⟨f0,f1,f2,f3,f4,f5⟩:=hf it (by simp)
  refine wpAny_pyNext_tuple_item st (show s.heap.IsTuple a its.toArray from p) (x:=u) (by simpa using hu) fun h' st' sb=> ?_
  have I1:Inv X pins σ H {s with heap:=h'}:=I.turned (t':=s.toks) (fun b o hb e=>(sb.2 b hb).trans e) f0 f1 f3 f4 f5
  obtain⟨o,e,c,d⟩:=id st'
  exact⟨u,rfl,uu (s:={s with heap:=h'}) e c d (by decide) ⟨x,H,I1,ru,⟨rfl,fun ys hy=>by rw[I.tuple_inj hy hq];exact hx⟩,st',fun b hb=>(hf b hb).1⟩⟩
 done:=by
  intro X hP hw hK hc i pins s σ H E I hf st hg
  subst hP hw hK
  obtain⟨xs,hq,hx⟩:=hg
  obtain⟨its,rv,p,hz⟩:=I.tuple hq
  obtain⟨f0,f1,f2,f3,f4,f5⟩:=hf it (by simp)
  have hl:=rv.length
  exact wpAny_pyNext_tuple_end (I.ok.hd hc) st (show s.heap.IsTuple a its.toArray from p) (by simp;omega) fun h' eb=>⟨rfl,I.turned (t':=s.toks) (fun b o hb e=>eb b o hb e) f0 f1 f3 f4 f5⟩
 self:=fun _ _ _ _ _ st h=>wpAny_pyIter_tupleiter st h
theorem sY{P:Program}{w:World}{K:PySem.W.Frag}{tg:Expr}(it:Addr)(lo:Int)(n:Nat):Turn P w K tg (Itr lo n) [it] it (fun i h=>IsRangeIter h it (lo+(i:Nat)*1) ((n:Int)-(i:Nat)) 1) where
 mem:=by simp
 obj:=fun i h st b hb=>by
  have e:b=it:=by simpa using hb
  subst e
  exact⟨_,st,fun v z=>by
   have z':Data.fields _=Data.cell v:=z
   cases z'⟩
 keep:=fun i h h' st k=>k it (by simp) _ st
 item:=by
  intro X hP hw hK hc i pins s σ H E I hf st hg
  subst hP hw hK
  obtain⟨f0,f1,f2,f3,f4,f5⟩:=hf it (by simp)
  have W:=Walks.range (prog:=X.prog) (w:=X.w) (I.ok.hd hc) it lo 1 n
  refine W.item i s _ _ hg st fun v h' tk hv st' kk=> ?_
  obtain⟨t,rfl⟩:=hv
  have I1:Inv X pins σ H {s with heap:=h',toks:=tk}:=I.turned (fun b o hb e=>kk b o (by simpa using hb) e) f0 f1 f3 f4 f5
  refine⟨_,rfl,uu (s:={s with heap:=h',toks:=tk}) (n:="range_iterator") st' rfl rfl (by decide) ⟨.int (lo+i),H,I1,⟨t, ?_⟩,⟨rfl,rfl⟩,st',fun b hb=>(hf b hb).1⟩⟩
  rw[Int.mul_one]
 done:=by
  intro X hP hw hK hc i pins s σ H E I hf st hg
  subst hP hw hK
  obtain⟨f0,f1,f2,f3,f4,f5⟩:=hf it (by simp)
  exact wpAny_pyNext_range_end (I.ok.hd hc) st (by have:n≤i:=hg;omega) fun h' eb=>⟨rfl,I.turned (t':=s.toks) (fun b o hb e=>eb b o hb e) f0 f1 f3 f4 f5⟩
 self:=fun _ _ _ _ _ st h=>wpAny_pyIter_rangeiter st h
end L2
namespace L2
open PySem PySem.Spec PyProof.Rows
section
variable{X:Cx}{tg:Expr}
def zV(K:W.Frag)(tl:TE):TI:=fun σ H R=>tl σ H fun x H1=>∃a,x= .ref a∧(∃xs,SqL K H1 a xs)∧R (Itl K a) H1
def Cw(K:W.Frag)(tl:TE):TI:=fun σ H R=>tl σ H fun x H1=>∃a,x= .ref a∧(∃xs,SqT K H1 a xs)∧R (Itt K a) H1
theorem aQ{l:Expr}{tl:TE}(hl:PE X l tl):PI X tg l (zV X.K tl):=by
 intro pins s σ H R I h
 refine thn (hl pins s σ H _ I h) fun v s1 ⟨x,H1,I1,r1,q1⟩=> ?_
 obtain⟨a,e,⟨xs,hq⟩,q⟩:=q1
 subst e
 cases r1
 obtain⟨its,rv,p,hz⟩:=I1.list hq
 refine wpAny_pyIter_list p.isList ?_
 refine⟨s1.heap.objs.size,[s1.heap.objs.size],_,_,H1,rfl,I1.kept (t':=s1.toks) fun b o e=>Heap.get?_push_of_some _ e,vL a _,⟨_,Heap.get?_push_size _ rfl,rfl,rfl⟩,fun b hb=> ?_,q⟩
 have e:b=s1.heap.objs.size:=by simpa using hb
 subst e
 exact I1.fpOk (Nat.le_refl _) (I1.hok.fresh (Nat.le_refl _))
theorem bb{l:Expr}{tl:TE}(hl:PE X l tl):PI X tg l (Cw X.K tl):=by
 intro pins s σ H R I h
 refine thn (hl pins s σ H _ I h) fun v s1 ⟨x,H1,I1,r1,q1⟩=> ?_
 obtain⟨a,e,⟨xs,hq⟩,q⟩:=q1
 subst e
 cases r1
 obtain⟨its,rv,p,hz⟩:=I1.tuple hq
 refine wpAny_pyIter_tuple (show s1.heap.IsTuple a its.toArray from p) ?_
 refine⟨s1.heap.objs.size,[s1.heap.objs.size],_,_,H1,rfl,I1.kept (t':=s1.toks) fun b o e=>Heap.get?_push_of_some _ e,sX a _,⟨_,Heap.get?_push_size _ rfl,rfl,rfl⟩,fun b hb=> ?_,q⟩
 have e:b=s1.heap.objs.size:=by simpa using hb
 subst e
 exact I1.fpOk (Nat.le_refl _) (I1.hok.fresh (Nat.le_refl _))
theorem wp{pins:List (Addr×Obj)}{σ:St}{H:Hp}{s:Shared}{R:It→Hp→Prop}{E:Value→Shared→Prop}{lo hi:Int}{t u v:Tok}{tk:Nat}(I:Inv X pins σ H s)(h1: -(2^62)≤lo)(h2:lo<2^62)(h3: -(2^62)≤hi)(h4:hi<2^62)
 (q:R (Itr lo (hi-lo).toNat) H):wpAny (model X.prog X.w) X.A (pyIter (.ref s.heap.objs.size)) (PIE X pins σ tg R) E {s with heap:=s.heap.push {cls:= .type "range",data:= .fields #[.int lo t, .int hi u, .int 1 v]},toks:=tk}:=by
 refine wpAny_pyIter_range (IsRange.new ..) (small_one h1 h2 h3 h4) ?_
 have I1:Inv X pins σ H {s with heap:=s.heap.push {cls:= .type "range",data:= .fields #[.int lo t, .int hi u, .int 1 v]},toks:=tk}:=I.kept fun b o e=>Heap.get?_push_of_some _ e
 refine⟨(s.heap.push {cls:= .type "range",data:= .fields #[.int lo t, .int hi u, .int 1 v]}).objs.size,[(s.heap.push {cls:= .type "range",data:= .fields #[.int lo t, .int hi u, .int 1 v]}).objs.size],_,_,H,rfl,
  I1.kept (t':=tk) fun b o e=>Heap.get?_push_of_some _ e,sY _ lo (hi-lo).toNat, ?_,fun b hb=> ?_,q⟩
 · have e1:lo+((0:Nat):Int)*1=lo:=by simp
   have e2:(((hi-lo).toNat:Nat):Int)-((0:Nat):Int)=Builtin.Range.rangeSize lo hi 1:=by rw[rangeSize_one];split<;>omega
   show IsRangeIter _ _ (lo+((0:Nat):Int)*1) ((((hi-lo).toNat:Nat):Int)-((0:Nat):Int)) 1
   rw[e1,e2]
   exact Heap.get?_push_size _ rfl
 · have e:b=(s.heap.push {cls:= .type "range",data:= .fields #[.int lo t, .int hi u, .int 1 v]}).objs.size:=by simpa using hb
   subst e
   exact I1.fpOk (Nat.le_refl _) (I1.hok.fresh (Nat.le_refl _))
def zW(ta:TA):TI:=fun σ H R=>ta σ H fun vs H1=>∃j:Int,vs=[.int j]∧ -(2^62)≤j∧j<2^62∧R (Itr 0 j.toNat) H1
theorem i6{a:Expr}{ta:TA}{p pos:Pos}(hg:Gl X "range")(hm:X.mg "range"=none)(ha:PA X [a] ta)(hs:starEach [a] X.env=[(false,eval a X.env)]:=by rfl):PI X tg (.Call (.Name "range" p) [a] [] pos) (zW ta):=by
 intro pins s σ H R I h
 refine Call_ (mW I hg hm boot_range (PyProof.Rows.callWith_type1 (thn (ha pos pins s σ H _ I h) fun us s1 ⟨vs,H1,I1,r1,q1⟩=> ?_) hs rfl))
 obtain⟨j,e,q1,q2,q⟩:=q1
 subst e
 cases r1 with
 |cons r rr=>
  cases rr
  obtain⟨t,rfl⟩:=r
  exact call_range_1 (wp I1 (by omega) (by omega) q1 q2 (by simpa using q))
def Cy(wi:TI)(g:TG)(tb:TS):TS:=fun D σ H=>wi σ H fun J H1=>∃W:Nat→Nat→St→Hp→Prop,(∃m,W 0 m σ H1)∧∀i m σ H,W i m σ H→
 (J.stop i H∧D.nx σ H)∨(J.go i H∧∃N:St→Hp→Prop,(∀σ' H',N σ' H'→∃m',m'<m∧W (i+1) m' σ' H')∧∀x H',J.yld i H x H'→g x σ H' fun σ2 H2=>tb {D with nx:=N,ct:=N,bk:=D.nx} σ2 H2)
def lL(fp:List Addr)(h:Heap):List (Addr×Obj):=fp.filterMap fun b=>(h.get? b).map fun o=>(b,o)
theorem gf{fp:List Addr}{h:Heap}{b:Addr}{o:Obj}(hb:b∈fp)(e:h.get? b=some o):(b,o)∈lL fp h:=List.mem_filterMap.mpr ⟨b,hb,by rw[e];rfl⟩
theorem vM{fp:List Addr}{h:Heap}{p:Addr×Obj}(hp:p∈lL fp h):p.1∈fp∧h.get? p.1=some p.2:=by
 obtain⟨b,hb,e⟩:=List.mem_filterMap.mp hp
 cases q:h.get? b with
 |none=>rw[q] at e;cases e
 |some o=>
  rw[q] at e
  have e':(b,o)=p:=Option.some.inj e
  subst e'
  exact⟨hb,q⟩
theorem Inv.pinned{pins:List (Addr×Obj)}{σ:St}{H:Hp}{s:Shared}{fp:List Addr}(I:Inv X pins σ H s)(hf:∀b∈fp,kr X pins H b)(ho:∀b∈fp,∃o,s.heap.get? b=some o∧∀v,o.data≠ .cell v):Inv X (pins++lL fp s.heap) σ H s:=
 I.pins_of fun p hp=>(List.mem_append.mp hp).elim (fun z=>I.pin p (List.mem_append_right _ z)) fun z=>by
  obtain⟨hb,e⟩:=vM z
  obtain⟨f0,f1,f2,_⟩:=hf p.1 hb
  obtain⟨o,e',d⟩:=ho p.1 hb
  rw[e] at e';cases e'
  exact⟨e,f0,f1,f2,d⟩
theorem Inv.unpinned{pins pl:List (Addr×Obj)}{σ:St}{H:Hp}{s:Shared}(I:Inv X (pins++pl) σ H s):Inv X pins σ H s:=I.pins_of fun p hp=>I.pin p (List.mem_append_right _ (List.mem_append_left _ hp))
theorem bK{iter:Expr}{body:List Stmt}{wi:TI}{g:TG}{tb:TS}{pos:Pos}(hp:PassesOwn (model X.prog X.w) X.A X.env X.xe)(hc:X.calm=true)(hi:PI X tg iter wi)(hg:PG X tg g)(hb:PSs X body tb)
 (hs:∀x,foldedSetIterable iter X.env x=pure x:=by intro _;rfl):PS X (.For tg iter body [] pos) (Cy wi g tb):=by
 intro pins s σ H D I h
 refine wpAny_For (thn (hi pins s σ H _ I h) fun v s1 h1=>thn h1 fun itv s2 h2=> ?_) hs
 obtain⟨it,fp,tn,J,H2,e,I2,T,st2,f2,W,⟨m0,w0⟩,turn⟩:=h2
 subst e
 have stat:∀{H':Hp},(∀b∈fp,H' b=none)→∀b∈fp,kr X pins H' b:=fun hn b hb=>⟨hn b hb,(f2 b hb).2⟩
 refine codeAny_forLoop_any (fun n s'=>∃i σ' H',Inv X pins σ' H' s'∧tn i s'.heap∧(∀b∈fp,H' b=none)∧W i n σ' H') ?_ m0 ⟨0,σ,H2,I2,st2,fun b hb=>(f2 b hb).1,w0⟩
 rintro n s3 ⟨i,σ3,H3,I3,st3,fr3,w3⟩
 rcases turn i n σ3 H3 w3 with⟨stop,qn⟩|⟨go,N,hN,step⟩
 · refine wpAny_passesOwn hp (thn (T.done X rfl rfl rfl hc i pins s3 σ3 H3 X.xe I3 (stat fr3) st3 stop) fun r s4 ⟨hr,I4⟩=> ?_)
   subst hr
   exact wpAny_execs_nil ⟨σ3,H3,I4,qn⟩
 · refine wpAny_passesOwn hp (thn (T.item X rfl rfl rfl hc i pins s3 σ3 H3 X.xe I3 (stat fr3) st3 go) fun r s4 ⟨u,hr,h4⟩=> ?_)
   subst hr
   refine wpAny_passesOwn hp (thn h4 fun _ s5 ⟨x,H5,I5,r5,y5,st5,fr5⟩=> ?_)
   have I5':=I5.pinned (stat fr5) (T.obj _ _ st5)
   refine wpAny_passesOwn hp (thn (hg _ s5 σ3 H5 x u _ I5' r5 (step x H5 y5)) fun _ s6 ⟨σ6,H6,I6,q6⟩=> ?_)
   refine wpAny_passesOwn hp (thn (hb _ s6 σ6 H6 _ I6 q6) fun f s7 q7=> ?_)
   have again:∀{σ7:St} {H7:Hp},Inv X (pins++lL fp s5.heap) σ7 H7 s7→N σ7 H7→∃m,m<n∧∃i σ' H',Inv X pins σ' H' s7∧tn i s7.heap∧(∀b∈fp,H' b=none)∧W i m σ' H':=fun {σ7 H7} I7 n7=>by
    obtain⟨m',hm,w7⟩:=hN σ7 H7 n7
    refine⟨m',hm,i+1,σ7,H7,I7.unpinned,T.keep _ _ _ st5 fun b hb o e=>(I7.pin (b,o) (List.mem_append_right _ (List.mem_append_right _ (gf hb e)))).1,fun b hb=> ?_,w7⟩
    obtain⟨o,e,d⟩:=T.obj _ _ st5 b hb
    exact(I7.pin (b,o) (List.mem_append_right _ (List.mem_append_right _ (gf hb e)))).2.1
   cases f with
   |next=>obtain⟨σ7,H7,I7,n7⟩:=q7;exact again I7 n7
   |cont=>obtain⟨σ7,H7,I7,n7⟩:=q7;exact again I7 n7
   |brk=>obtain⟨σ7,H7,I7,q7⟩:=q7;exact⟨σ7,H7,I7.unpinned,q7⟩
   |ret v=>obtain⟨x7,σ7,H7,I7,r7,q7⟩:=q7;exact⟨x7,σ7,H7,I7.unpinned,r7,q7⟩
end
abbrev R2:=V→V→Hp→VK→Prop
def OpR(X:Cx)(f:Value→Value→Sem Value)(r:R2):Prop:=
 ∀(pins:List (Addr×Obj)) (s:Shared) (σ:St) (H:Hp) (x y:V) (v u:Value) (Q:VK),Inv X pins σ H s→RelV x v→RelV y u→r x y H Q→
  wpAny (model X.prog X.w) X.A (f v u) (EP X pins σ Q) X.xe s
def UnR(X:Cx)(f:Value→Sem Value)(r:V→Hp→VK→Prop):Prop:=
 ∀(pins:List (Addr×Obj)) (s:Shared) (σ:St) (H:Hp) (x:V) (v:Value) (Q:VK),Inv X pins σ H s→RelV x v→r x H Q→
  wpAny (model X.prog X.w) X.A (f v) (EP X pins σ Q) X.xe s
def CallR(X:Cx)(f:Value)(r:List V→Hp→VK→Prop):Prop:=
 ∀(pins:List (Addr×Obj)) (s:Shared) (σ:St) (H:Hp) (xs:List V) (us:List Value) (Q:VK),Inv X pins σ H s→Vals xs us→r xs H Q→
  wpAny (model X.prog X.w) X.A (call f us) (EP X pins σ Q) X.xe s
def D2(X:Cx)(r:V→Hp→(Bool→Hp→Prop)→Prop):Prop:=
 ∀(pins:List (Addr×Obj)) (s:Shared) (σ:St) (H:Hp) (x:V) (v:Value) (Q:Bool→Hp→Prop),Inv X pins σ H s→RelV x v→r x H Q→
  wpAny (model X.prog X.w) X.A (truthy v) (TP X pins σ Q) X.xe s
def tOp(r:R2)(ta tb:TE):TE:=fun σ H Q=>ta σ H fun x H1=>tb σ H1 fun y H2=>r x y H2 Q
def tUn(r:V→Hp→VK→Prop)(ta:TE):TE:=fun σ H Q=>ta σ H fun x H1=>r x H1 Q
def rI(C:Int→Int→Prop)(g:Int→Int→V):R2:=fun x y H Q=>∃i j,x= .int i∧y= .int j∧C i j∧Q (g i j) H
def rI0(g:Int→Int→V):R2:=fun x y H Q=>∃i j,x= .int i∧y= .int j∧Q (g i j) H
def rU(g:Int→V):V→Hp→VK→Prop:=fun x H Q=>∃i,x= .int i∧Q (g i) H
section
variable{X:Cx}{a b c:Expr}{ta tb tc:TE}{pos:Pos}
theorem AT(ha:PE X a ta)(hb:PE X b tb){pins:List (Addr×Obj)}{s:Shared}{σ:St}{H:Hp}{R:V→V→Hp→Prop}(I:Inv X pins σ H s)
 (h:ta σ H fun x H1=>tb σ H1 fun y H2=>R x y H2){Q:Value→Shared→Prop}{f:Value→Value→Sem Value}
 (hf:∀v u s2 x y H2,Inv X pins σ H2 s2→RelV x v→RelV y u→R x y H2→wpAny (model X.prog X.w) X.A (f v u) Q X.xe s2):
 wpAny (model X.prog X.w) X.A (eval a X.env) (fun v s₁=>wpAny (model X.prog X.w) X.A (eval b X.env) (fun u s₂=>wpAny (model X.prog X.w) X.A (f v u) Q X.xe s₂) X.xe s₁) X.xe s:=by
 refine thn (ha pins s σ H _ I h) fun v s1 ⟨x,H1,I1,r1,q1⟩=> ?_
 refine thn (hb pins s1 σ H1 _ I1 q1) fun u s2 ⟨y,H2,I2,r2,q2⟩=> ?_
 exact hf v u s2 x y H2 I2 r1 r2 q2
theorem aw{op:Operator}{r:R2}(ho:OpR X (binaryOp op) r)(ha:PE X a ta)(hb:PE X b tb):PE X (.BinOp a op b pos) (tOp r ta tb):=by
 intro pins s σ H Q I h
 exact wpAny_BinOp (AT ha hb I h fun v u s2 x y H2 I2 rx ry q=>ho pins s2 σ H2 x y v u Q I2 rx ry q)
theorem wq{op:UnaryOp}{r:V→Hp→VK→Prop}(ho:UnR X (unaryOp op) r)(ha:PE X a ta):PE X (.UnaryOp op a pos) (tUn r ta):=by
 intro pins s σ H Q I h
 exact UnaryOp_ (thn (ha pins s σ H _ I h) fun v s1 ⟨x,H1,I1,r1,q1⟩=>ho pins s1 σ H1 x v Q I1 r1 q1)
theorem opI{f:Value→Value→Sem Value}{C:Int→Int→Prop}{g:Int→Int→Int}
 (rule:∀(i j:Int) (t u:Tok) (s:Shared) (Q:Value→Shared→Prop) (E:Value→Shared→Prop),C i j→Q (.int (g i j) s.toks) {s with toks:=s.toks+1}→wpAny (model X.prog X.w) X.A (f (.int i t) (.int j u)) Q E s):
 OpR X f (rI C fun i j=> .int (g i j)):=by
 intro pins s σ H x y v u Q I rx ry h
 obtain⟨i,j,rfl,rfl,hc,q⟩:=h
 obtain⟨t,rfl⟩:=rx
 obtain⟨t',rfl⟩:=ry
 exact rule i j t t' s _ _ hc ⟨.int (g i j),H,I.tok _,⟨_,rfl⟩,q⟩
theorem Cz{f:Value→Value→Sem Value}{g:Int→Int→Int}
 (rule:∀(i j:Int) (t u:Tok) (s:Shared) (Q:Value→Shared→Prop) (E:Value→Shared→Prop),Q (.int (g i j) s.toks) {s with toks:=s.toks+1}→wpAny (model X.prog X.w) X.A (f (.int i t) (.int j u)) Q E s):
 OpR X f (rI0 fun i j=> .int (g i j)):=by
 intro pins s σ H x y v u Q I rx ry h
 obtain⟨i,j,rfl,rfl,q⟩:=h
 obtain⟨t,rfl⟩:=rx
 obtain⟨t',rfl⟩:=ry
 exact rule i j t t' s _ _ ⟨.int (g i j),H,I.tok _,⟨_,rfl⟩,q⟩
theorem wt{f:Value→Value→Sem Value}{g:Int→Int→Bool}
 (rule:∀(i j:Int) (t u:Tok) (s:Shared) (Q:Value→Shared→Prop) (E:Value→Shared→Prop),Q (.bool (g i j)) s→wpAny (model X.prog X.w) X.A (f (.int i t) (.int j u)) Q E s):
 OpR X f (rI0 fun i j=> .bl (g i j)):=by
 intro pins s σ H x y v u Q I rx ry h
 obtain⟨i,j,rfl,rfl,q⟩:=h
 obtain⟨t,rfl⟩:=rx
 obtain⟨t',rfl⟩:=ry
 exact rule i j t t' s _ _ ⟨.bl (g i j),H,I,rfl,q⟩
def CA(i j:Int):Prop:=0<j∧j<1073741824
theorem AU:OpR X (binaryOp .Add) (rI0 fun i j=> .int (i+j)):=Cz fun _ _ _ _ _ _ _ q=>add_int q
theorem iN:OpR X (binaryOp .Sub) (rI0 fun i j=> .int (i-j)):=Cz fun _ _ _ _ _ _ _ q=>sub_int q
theorem db:OpR X (binaryOp .FloorDiv) (rI CA fun i j=> .int (i/j)):=opI fun i j _ _ _ _ _ hc q=>by
 have h1:(0:Int)<j:=hc.1
 have h2:j<1073741824:=hc.2
 exact floordiv_int (by omega) (by rw[Int.fdiv_eq_ediv_of_nonneg i (by omega)];exact q) (.inl (PyProof.noPylong_small (by omega)))
theorem bA:OpR X (binaryOp .Mod) (rI (fun _ j=>0<j) fun i j=> .int (i%j)):=opI fun i j _ _ _ _ _ hc q=>by
 have h1:(0:Int)<j:=hc
 exact mod_int' (by omega) (by rw[Int.fmod_eq_emod_of_nonneg i (by omega)];exact q)
theorem unI{f:Value→Sem Value}{g:Int→Int}
 (rule:∀(i:Int) (t:Tok) (s:Shared) (Q:Value→Shared→Prop) (E:Value→Shared→Prop),Q (.int (g i) s.toks) {s with toks:=s.toks+1}→wpAny (model X.prog X.w) X.A (f (.int i t)) Q E s):
 UnR X f (rU fun i=> .int (g i)):=by
 intro pins s σ H x v Q I rx h
 obtain⟨i,rfl,q⟩:=h
 obtain⟨t,rfl⟩:=rx
 exact rule i t s _ _ ⟨.int (g i),H,I.tok _,⟨_,rfl⟩,q⟩
theorem sZ:UnR X (unaryOp .USub) (rU fun i=> .int (-i)):=unI fun _ _ _ _ _ q=>neg_int q
end
def CB:V→V→Bool
 | .non, .non=>true| .non, .int _=>true| .int _, .non=>true| .non, .bl _=>true| .bl _, .non=>true| .non, .str _=>true| .str _, .non=>true
 | .int _, .int _=>true| .bl _, .bl _=>true| .str _, .str _=>true| .byt _, .byt _=>true
 | .int _, .str _=>true| .str _, .int _=>true| .bl _, .str _=>true| .str _, .bl _=>true
 |_,_=>false
def rEq:R2:=fun x y H Q=>CB x y=true∧Q (.bl (decide (x=y))) H
def rNe:R2:=fun x y H Q=>CB x y=true∧Q (.bl (!decide (x=y))) H
theorem uv{i j:Int}:decide (V.int i=V.int j)=(i==j):=by
 rw[Bool.eq_iff_iff]
 simp
theorem wu{i j:Bool}:decide (V.bl i=V.bl j)=(i==j):=by
 rw[Bool.eq_iff_iff]
 simp
theorem uw{i j:Str}:decide (V.str i=V.str j)=(i==j):=by
 rw[Bool.eq_iff_iff]
 simp
theorem uy{i j:Array UInt8}:decide (V.byt i=V.byt j)=(i.toList==j.toList):=by
 rw[Bool.eq_iff_iff]
 cases i
 cases j
 simp
section
variable{X:Cx}{a b c:Expr}{ta tb tc:TE}{pos:Pos}
theorem bt{pins:List (Addr×Obj)}{σ:St}{H:Hp}{s:Shared}{Q:VK}{k k':Bool}(I:Inv X pins σ H s)(q:Q (.bl k) H)(e:k=k'):EP X pins σ Q (.bool k') s:=by
 subst e
 exact⟨.bl k,H,I,rfl,q⟩
theorem CC:OpR X (compareOp .Eq) rEq:=by
 intro pins s σ H x y v u Q I rx ry h
 obtain⟨hs,q⟩:=h
 cases x with
 |non=>
  cases rx
  cases y with
  |non=>cases ry;exact PySem.EqNone.eq_none_none (bt I q (by simp))
  |bl j=>cases ry;exact PySem.EqNone.eq_none_bool (bt I q (by simp))
  |int j=>obtain⟨t',rfl⟩:=ry;exact PySem.EqNone.eq_none_int (bt I q (by simp))
  |str j=>obtain⟨t',rfl⟩:=ry;exact PySem.EqNone.eq_none_str (bt I q (by simp))
  |_=>exact absurd (show false=true from hs) Bool.false_ne_true
 |bl i=>
  cases rx
  cases y with
  |non=>cases ry;exact PySem.EqNone.eq_bool_none (bt I q (by simp))
  |bl j=>cases ry;exact eq_bool (bt I q wu)
  |str j=>obtain⟨t',rfl⟩:=ry;exact PySem.EqMixed.eq_bool_str (bt I q (by simp))
  |_=>exact absurd (show false=true from hs) Bool.false_ne_true
 |int i=>
  obtain⟨t,rfl⟩:=rx
  cases y with
  |non=>cases ry;exact PySem.EqNone.eq_int_none (bt I q (by simp))
  |int j=>obtain⟨t',rfl⟩:=ry;exact eq_int (bt I q uv)
  |str j=>obtain⟨t',rfl⟩:=ry;exact PySem.EqMixed.eq_int_str (bt I q (by simp))
  |_=>exact absurd (show false=true from hs) Bool.false_ne_true
 |str i=>
  obtain⟨t,rfl⟩:=rx
  cases y with
  |non=>cases ry;exact PySem.EqNone.eq_str_none (bt I q (by simp))
  |bl j=>cases ry;exact PySem.EqMixed.eq_str_bool (bt I q (by simp))
  |int j=>obtain⟨t',rfl⟩:=ry;exact PySem.EqMixed.eq_str_int (bt I q (by simp))
  |str j=>obtain⟨t',rfl⟩:=ry;exact eq_str (bt I q uw)
  |_=>exact absurd (show false=true from hs) Bool.false_ne_true
 |byt i=>
  obtain⟨t,rfl⟩:=rx
  cases y with
  |byt j=>obtain⟨t',rfl⟩:=ry;exact W.eq_bytes (bt I q uy)
  |_=>exact absurd (show false=true from hs) Bool.false_ne_true
 |_=>cases y<;>exact absurd (show false=true from hs) Bool.false_ne_true
theorem CD:OpR X (compareOp .NotEq) rNe:=by
 intro pins s σ H x y v u Q I rx ry h
 obtain⟨hs,q⟩:=h
 cases x with
 |non=>
  cases rx
  cases y with
  |non=>cases ry;exact PySem.EqNone.ne_none_none (bt I q (by simp))
  |bl j=>cases ry;exact PySem.EqNone.ne_none_bool (bt I q (by simp))
  |int j=>obtain⟨t',rfl⟩:=ry;exact PySem.EqNone.ne_none_int (bt I q (by simp))
  |str j=>obtain⟨t',rfl⟩:=ry;exact PySem.EqNone.ne_none_str (bt I q (by simp))
  |_=>exact absurd (show false=true from hs) Bool.false_ne_true
 |bl i=>
  cases rx
  cases y with
  |non=>cases ry;exact PySem.EqNone.ne_bool_none (bt I q (by simp))
  |bl j=>cases ry;exact ne_bool (bt I q (congrArg not wu))
  |str j=>obtain⟨t',rfl⟩:=ry;exact PySem.EqMixed.ne_bool_str (bt I q (by simp))
  |_=>exact absurd (show false=true from hs) Bool.false_ne_true
 |int i=>
  obtain⟨t,rfl⟩:=rx
  cases y with
  |non=>cases ry;exact PySem.EqNone.ne_int_none (bt I q (by simp))
  |int j=>obtain⟨t',rfl⟩:=ry;exact ne_int (bt I q (congrArg not uv))
  |str j=>obtain⟨t',rfl⟩:=ry;exact PySem.EqMixed.ne_int_str (bt I q (by simp))
  |_=>exact absurd (show false=true from hs) Bool.false_ne_true
 |str i=>
  obtain⟨t,rfl⟩:=rx
  cases y with
  |non=>cases ry;exact PySem.EqNone.ne_str_none (bt I q (by simp))
  |bl j=>cases ry;exact PySem.EqMixed.ne_str_bool (bt I q (by simp))
  |int j=>obtain⟨t',rfl⟩:=ry;exact PySem.EqMixed.ne_str_int (bt I q (by simp))
  |str j=>obtain⟨t',rfl⟩:=ry;exact ne_str (bt I q (congrArg not uw))
  |_=>exact absurd (show false=true from hs) Bool.false_ne_true
 |byt i=>
  obtain⟨t,rfl⟩:=rx
  cases y with
  |byt j=>obtain⟨t',rfl⟩:=ry;exact W.ne_bytes (bt I q (congrArg not uy))
  |_=>exact absurd (show false=true from hs) Bool.false_ne_true
 |_=>cases y<;>exact absurd (show false=true from hs) Bool.false_ne_true
theorem kB:OpR X (compareOp .Lt) (rI0 fun i j=> .bl (decide (i<j))):=wt fun _ _ _ _ _ _ _ q=>lt_int q
theorem zX:OpR X (compareOp .LtE) (rI0 fun i j=> .bl (decide (i≤j))):=wt fun _ _ _ _ _ _ _ q=>le_int q
theorem wv:OpR X (compareOp .Gt) (rI0 fun i j=> .bl (decide (j<i))):=wt fun _ _ _ _ _ _ _ q=>gt_int q
theorem AV:OpR X (compareOp .Is) (fun x y H Q=>y= .non∧Q (.bl (decide (x= .non))) H):=by
 intro pins s σ H x y v u Q I rx ry h
 obtain⟨rfl,q⟩:=h
 cases ry
 refine is_none_gen (bt I q ?_)
 cases x<;>first
  |(cases rx;rfl)
  |(obtain⟨t,rfl⟩:=rx;rfl)
theorem OpR.or{f:Value→Value→Sem Value}{r r':R2}(h:OpR X f r)(h':OpR X f r'):OpR X f (fun x y H Q=>r x y H Q∨r' x y H Q):=by
 intro pins s σ H x y v u Q I rx ry q
 rcases q with q|q
 · exact h pins s σ H x y v u Q I rx ry q
 · exact h' pins s σ H x y v u Q I rx ry q
theorem bd(b:Expr){op:CmpOp}(h:op≠ .In:=by decide)(h2:op≠ .NotIn:=by decide):behindInMarks op b=false:=by
 have e1:(op==CmpOp.In)=false:=by cases op<;>first|rfl|exact absurd rfl h
 have e2:(op==CmpOp.NotIn)=false:=by cases op<;>first|rfl|exact absurd rfl h2
 cases b<;>simp[behindInMarks,e1,e2]
theorem kS{op:CmpOp}{r:R2}(ho:OpR X (compareOp op) r)(ha:PE X a ta)(hb:PE X b tb)(hm:behindInMarks op b=false):PE X (.Compare a [op] [b] pos) (tOp r ta tb):=by
 intro pins s σ H Q I h
 exact wpAny_Compare1 (AT ha hb I h fun v u s2 x y H2 I2 rx ry q=>ho pins s2 σ H2 x y v u Q I2 rx ry q) hm
def ww(t:TE):TT:=fun σ H Q=>t σ H fun x H'=>∃k,x= .bl k∧Q k H'
theorem aY{op:CmpOp}{r:R2}(ho:OpR X (compareOp op) r)(ha:PE X a ta)(hb:PE X b tb)(hm:behindInMarks op b=false):PT X (.Compare a [op] [b] pos) (ww (tOp r ta tb)):=by
 intro pins s σ H Q I h
 refine wpAny_isTrue_Compare1 (thn (ha pins s σ H _ I h) fun v s1 ⟨x,H1,I1,r1,q1⟩=>thn (hb pins s1 σ H1 _ I1 q1) fun u s2 ⟨y,H2,I2,r2,q2⟩=>
  thn (ho pins s2 σ H2 x y v u _ I2 r1 r2 q2) fun c s3 ⟨z,H3,I3,r3,k,e,q3⟩=> ?_) hm
 subst e
 cases r3
 exact wpAny_truthy_bool ⟨H3,I3,q3⟩
def wx(r r':R2)(ta tb tc:TE):TE:=fun σ H Q=>ta σ H fun x H1=>tb σ H1 fun y H2=>r x y H2 fun z H3=>∃k,z= .bl k∧
 (if k=true then tc σ H3 fun w' H4=>r' y w' H4 Q else Q (.bl false) H3)
theorem qR{op op':CmpOp}{r r':R2}(ho:OpR X (compareOp op) r)(ho':OpR X (compareOp op') r')(ha:PE X a ta)(hb:PE X b tb)(hc:PE X c tc)
 (hm:lastMarks [op,op'] [b,c]=false:=by with_unfolding_all rfl):PT X (.Compare a [op,op'] [b,c] pos) (ww (wx r r' ta tb tc)):=by
 intro pins s σ H Q I h
 refine isTrue_chain (thn (ha pins s σ H _ I h) fun v s1 ⟨x,H1,I1,r1,q1⟩=>test_link (thn (hb pins s1 σ H1 _ I1 q1) fun u s2 ⟨y,H2,I2,r2,q2⟩=>
  thn (ho pins s2 σ H2 x y v u _ I2 r1 r2 q2) fun d s3 ⟨z,H3,I3,r3,k,e,q3⟩=> ?_)) hm
 subst e
 cases r3
 refine wpAny_truthy_bool ?_
 cases k with
 |false=>
  obtain⟨k',e',q'⟩:=q3
  cases e'
  exact ite_ff ⟨H3,I3,q'⟩
 |true=>
  refine ite_tt (test_last (thn (hc pins s3 σ H3 _ I3 q3) fun w' s4 ⟨z',H4,I4,r4,q4⟩=>thn (ho' pins s4 σ H4 y z' u w' _ I4 r2 r4 q4) fun d' s5 ⟨z2,H5,I5,r5,k2,e2,q5⟩=> ?_))
  subst e2
  cases r5
  exact wpAny_truthy_bool ⟨H5,I5,q5⟩
def AW(K:W.Frag)(x:V)(H:Hp)(k:Bool):Prop:=
 match x with
 | .non=>k=false
 | .bl b=>k=b
 | .int i=>k=(i != 0)
 | .str y=>y.length≤sizeLine∧k=((y.length:Int) != 0)
 | .byt y=>y.size≤sizeLine∧k=((y.size:Int) != 0)
 | .ref p=>(∃xs,SqL K H p xs∧k= !xs.isEmpty)∨(∃xs,SqT K H p xs∧k= !xs.isEmpty)∨∃kvs,H p=some (.dK kvs)∧k= !kvs.isEmpty
 |_=>False
theorem tf{κ:Type}{kvs:List (κ×V)}{vs:List (κ×Value)}(r:KV kvs vs):(!vs.isEmpty)= !kvs.isEmpty:=by
 cases r<;>rfl
theorem mY{xs:List V}{its:List Value}(r:Vals xs its):(!its.toArray.isEmpty)= !xs.isEmpty:=by
 cases r<;>simp
theorem lM:(sizeLine:Nat)<2^63:=by rw[sizeLine_eq];decide
theorem AX:D2 X (fun x H Q=>∃k,AW X.K x H k∧Q k H):=by
 intro pins s σ H x v Q I rx h
 obtain⟨k,e,q⟩:=h
 have hl:=lM
 have hs:sizeLine=16777216:=sizeLine_eq
 cases x with
 |non=>
  cases rx
  have e':k=false:=e
  subst e'
  exact truthy_none ⟨H,I,q⟩
 |bl b=>
  cases rx
  have e':k=b:=e
  subst e'
  exact wpAny_truthy_bool ⟨H,I,q⟩
 |int i=>
  obtain⟨t,rfl⟩:=rx
  have e':k=(i != 0):=e
  subst e'
  exact PySem.P.truthy_int ⟨H,I,q⟩
 |str y=>
  obtain⟨t,rfl⟩:=rx
  obtain⟨hy,e'⟩:y.length≤sizeLine∧k=((y.length:Int) != 0):=e
  subst e'
  exact PySem.P.truthy_str (by omega) ⟨H,I.tok _,q⟩
 |byt y=>
  obtain⟨t,rfl⟩:=rx
  obtain⟨hy,e'⟩:y.size≤sizeLine∧k=((y.size:Int) != 0):=e
  subst e'
  exact W.truthy_bytes (by omega) ⟨H,I.tok _,q⟩
 |ref p=>
  cases rx
  have e':(∃xs,SqL X.K H p xs∧k= !xs.isEmpty)∨(∃xs,SqT X.K H p xs∧k= !xs.isEmpty)∨∃kvs,H p=some (.dK kvs)∧k= !kvs.isEmpty:=e
  rcases e' with⟨xs,hx,e'⟩|⟨xs,hx,e'⟩|⟨kvs,hx,e'⟩
  · subst e'
    obtain⟨its,r,pl,hz⟩:=I.list hx
    have hlen:=r.length
    exact wpAny_truthy_list pl.isList (by simp only[List.size_toArray];omega) ⟨H,I.tok _,by rw[mY r];exact q⟩
  · subst e'
    obtain⟨its,r,pl,hz⟩:=I.tuple hx
    have hlen:=r.length
    exact truthy_tuple pl (by simp only[List.size_toArray];omega) ⟨H,I.tok _,by rw[mY r];exact q⟩
  · subst e'
    obtain⟨hz,hS,vs,r,m⟩:kvs.length≤sizeLine∧(p==sysModules)=false∧∃vs,KV kvs vs∧s.heap.DictOf (cB X.prog X.w) p vs:=I.hok p _ hx
    have hlen:kvs.length=vs.length:=Paired.length r
    exact wpAny_truthy_dict hS m (by omega) ⟨H,I.tok _,by rw[tf r];exact q⟩
 |_=>exact(show False from e).elim
theorem wy(ha:PE X a ta)(he:∀whole,isTrue a X.env whole=(do let v ←whole;standAt a.pos;holding [v] (truthy v))):
 PT X a (fun σ H Q=>ta σ H fun x H'=>∃k,AW X.K x H' k∧Q k H'):=by
 intro pins s σ H Q I h
 exact isTrue_plain (thn (ha pins s σ H _ I h) fun v s1 ⟨x,H1,I1,r1,q1⟩=>AX pins s1 σ H1 x v Q I1 r1 q1) (he _)
theorem ti:OpR X (binaryOp .Add) (fun x y H Q=>∃i j,x= .str i∧y= .str j∧i.length+j.length≤sizeLine∧Q (.str (i++j)) H):=by
 intro pins s σ H x y v u Q I rx ry h
 obtain⟨i,j,rfl,rfl,hz,q⟩:=h
 obtain⟨t,rfl⟩:=rx
 obtain⟨t',rfl⟩:=ry
 exact add_str (fun t' tk=>⟨.str (i++j),H,I.tok _,⟨_,rfl⟩,q⟩) hz
theorem qS{x:V}{us:List Value}(r:Vals [x] us):∃u,us=[u]∧RelV x u:=by
 cases r with
 |cons r1 r2=>cases r2;exact⟨_,rfl,r1⟩
theorem kT:CallR X (.builtin "abs") (fun xs H Q=>∃i,xs=[.int i]∧Q (.int (if i<0 then-i else i)) H):=by
 intro pins s σ H xs us Q I r h
 obtain⟨i,rfl,q⟩:=h
 obtain⟨u,rfl,t,rfl⟩:=qS r
 exact call_abs_int fun u tk=>⟨.int (if i<0 then-i else i),H,I.tok _,⟨_,rfl⟩,q⟩
end
structure ObjM(h:Heap)(x dx C:Addr)(mA:Str→Option Value):Prop where
 obj:h.get? x=some (W.instObj C dx)
 ns:h.Ns1 dx mA
 ne:dx≠x
theorem vN{h:Heap}{dx:Addr}{mA:Str→Option Value}(n:h.Ns1 dx mA):∃od,h.get? dx=some od∧∀name,W.lookIn name od=some (mA name):=by
 obtain⟨o,es,ep,ho,hd,hk,_,hm⟩:=n
 refine⟨o,ho,fun name=> ?_⟩
 have e:=hm name
 unfold nsFind findBy at e
 rw[←Array.find?_toList] at e
 unfold W.lookIn
 rw[hd]
 dsimp only
 split
 · rename_i y q
   rw[q] at e
   exact congrArg some e
 · rename_i q
   rw[q] at e
   have a:es.toList.any (·.refKey)=false:=by
    rw[List.any_eq_false]
    intro y hy
    obtain⟨z,t,hkey⟩:=hk y (Array.mem_toList_iff.mp hy)
    simp[DictEntry.refKey,hkey]
   have a':¬es.toList.any (·.refKey)=true:=by rw[a];exact Bool.false_ne_true
   rw[if_neg a']
   exact congrArg some e
theorem ObjM.look{h:Heap}{x dx C:Addr}{mA:Str→Option Value}(I:ObjM h x dx C mA):∃od,W.InstAt h x (W.instObj C dx) C (some od)∧∀name,W.lookIn name od=some (mA name):=
 let⟨od,ho,hl⟩:=vN I.ns
 ⟨od,⟨I.obj,rfl,rfl,ho⟩,hl⟩
section
variable{prog:Program}{w:World}{A:Around}{E:Value→Shared→Prop}{s:Shared}{K:W.Frag}{x dx C f:Addr}{mA:Str→Option Value}{name:Str}{v:Value}
theorem yp{expr:Bool}{Q:Value→Shared→Prop}(X:K.In s.heap)(I:ObjM s.heap x dx C mA)(hg:W.plainGet K C name=true)(hh:W.hasDictIn K C=true)
 (ha:W.findIn K (.ref C) name=some none)(hv:mA name=some v)(hv':W.handedIn v=true)(h:Q v {s with toks:=s.toks+1}):
 wpAny (model prog w) A (getAttr (.ref x) name expr) Q E s:=by
 obtain⟨od,J,hl⟩:=I.look
 exact W.get_value X J (W.plainGet_of hg).1 (W.findObj_own hh ha rfl (by rw[hl,hv])) hv' h
theorem yq{ns:List Str}{Q:Unit→Shared→Prop}(X:K.In s.heap)(I:ObjM s.heap x dx C mA)
 (hs:W.findIn K (.ref C) "__setattr__"=some (some (.builtin "object.__setattr__")))(hp:W.plainOver K C=true)(ht:W.takerIn K C name=some none)(hh:W.hasDictIn K C=true)
 (hw:PySem.Within mA ns)(hsz:ns.length≤sizeLine)
 (h:∀h',ObjM h' x dx C (fun y=>if y=name then some v else mA y)→Heap.SameBut dx s.heap h'→Q () {s with heap:=h',toks:=s.toks+2}):
 wpAny (model prog w) A (setAttr (.ref x) name v) Q E s:=by
 obtain⟨od,J,hl⟩:=I.look
 refine W.set_plain X J hs (W.osa_open (s:={s with toks:=s.toks+1}) (r:=none) X J hp ht fun b=> ?_)
 obtain⟨cd,hc,hd'⟩:=W.any_some hh
 have hx:s.heap.get? x=some ⟨.ref C,some dx, .plain,#[]⟩:=I.obj
 refine wpAny_bind (wpAny_pure (wpAny_bind (wpAny_bind (wpAny_loadPart hx (wpAny_bind (W.Looks.here (s:={s with toks:=s.toks+1}) (W.looks_clsIn X hc) ?_))))))
 rw[hd']
 refine wpAny_pure (a:=some dx) (wpAny_bind (wpAny_pure (wpAny_bind ?_)))
 refine wpAny_nsSet1 (s:={s with toks:=s.toks+1}) I.ns fun h' hn2 hs2=> ?_
 obtain⟨oD,esD,epD,hoD,hdD,hcD⟩:=hn2.count (PySem.Within.cons name v hw)
 refine wpAny_bind (wpAny_lookBehind hoD (by rw[hdD];exact pastItsLine_dict (Nat.le_trans hcD (by rw[List.length_cons];omega))) ?_)
 exact wpAny_pure (h _ ⟨(hs2.2 _ (Ne.symm I.ne)).trans I.obj,hn2,I.ne⟩ hs2)
theorem wA{R:Result→Shared→Prop}{vs:List Value}{kw:List (Str×Value)}(X:K.In s.heap)(hm:W.makesIn K C=true)
 (hi:W.findIn K (.ref C) "__init__"=some (some (.ref f)))(hf:W.typeIn K (.ref f)=some (.type "function"))
 (h:codeAny (model prog w) (A.under (.builtin "type.__call__" ⟨.ref C::vs,kw⟩)) (.call (.ref f) ⟨.ref (s.heap.objs.size+1)::vs,kw⟩) (W.InitBack (s.heap.objs.size+1) R)
  {s with heap:=(s.heap.push W.emptyDict).push (W.instObj C s.heap.objs.size)}):
 codeAny (model prog w) A (.call (.ref C) ⟨vs,kw⟩) R s:=by
 obtain⟨hh,g,d,t,os⟩:=s
 exact W.make_core (W.makes_of X hm) (W.looks_findIn X hi) (fun self=>W.bind_fn X self hf) (.inl rfl) h
end
def i7(f:Str)(v:V):List (Str×V)→List (Str×V)
 |[]=>[(f,v)]
 |(g,x)::r=>if g=f then(g,v)::r else(g,x)::i7 f v r
theorem iB(f g:Str)(v:V):∀fs:List (Str×V),(i7 f v fs).lookup g=if g=f then some v else fs.lookup g
 |[]=>by
  show List.lookup g [(f,v)]=_
  by_cases h:g=f
  · have hb:(g==f)=true:=beq_iff_eq.mpr h
    simp only[List.lookup,hb,if_pos h]
  · have hb:(g==f)=false:=beq_eq_false_iff_ne.mpr h
    simp only[List.lookup,hb,if_neg h]
 |(k,x)::r=>by
  have ih:=iB f g v r
  rw[show i7 f v ((k,x)::r)=(if k=f then(k,v)::r else(k,x)::i7 f v r) from rfl]
  by_cases hk:k=f
  · rw[if_pos hk]
    by_cases h:g=k
    · have hb:(g==k)=true:=beq_iff_eq.mpr h
      simp only[List.lookup,hb,if_pos (h.trans hk)]
    · have hb:(g==k)=false:=beq_eq_false_iff_ne.mpr h
      simp only[List.lookup,hb,if_neg (fun e:g=f=>h (e.trans hk.symm))]
  · rw[if_neg hk]
    by_cases h:g=k
    · have hb:(g==k)=true:=beq_iff_eq.mpr h
      simp only[List.lookup,hb,if_neg (fun e:g=f=>hk (h.symm.trans e))]
    · have hb:(g==k)=false:=beq_eq_false_iff_ne.mpr h
      simp only[List.lookup,hb]
      exact ih
theorem lN(f:Str)(v:V):∀fs:List (Str×V),f∈(i7 f v fs).map (·.1)∧∀g,g∈fs.map (·.1)→g∈(i7 f v fs).map (·.1)
 |[]=>⟨by simp[i7],fun g h=>by simp at h⟩
 |(k,x)::r=>by
  obtain⟨i1,i2⟩:=lN f v r
  rw[show i7 f v ((k,x)::r)=(if k=f then(k,v)::r else(k,x)::i7 f v r) from rfl]
  by_cases hk:k=f
  · rw[if_pos hk]
    subst hk
    exact⟨by simp,fun g h=>by simpa using h⟩
  · rw[if_neg hk]
    refine⟨?_,fun g h=> ?_⟩
    · rw[List.map_cons]
      exact List.mem_cons_of_mem _ i1
    · rw[List.map_cons] at h ⊢
      rcases List.mem_cons.mp h with e|e
      · exact List.mem_cons.mpr (.inl e)
      · exact List.mem_cons_of_mem _ (i2 g e)
theorem mD(f:Str)(v:V):∀fs:List (Str×V),(i7 f v fs).length≤fs.length+1
 |[]=>by simp[i7]
 |(k,x)::r=>by
  have ih:=mD f v r
  rw[show i7 f v ((k,x)::r)=(if k=f then(k,v)::r else(k,x)::i7 f v r) from rfl]
  by_cases hk:k=f
  · rw[if_pos hk,List.length_cons,List.length_cons];omega
  · rw[if_neg hk,List.length_cons,List.length_cons];omega
theorem RelO.some_of{v:V}{o:Option Value}(r:RelO (some v) o):∃u,o=some u∧RelV v u:=by
 cases o with
 |none=>exact(show False from r).elim
 |some u=>exact⟨u,rfl,r⟩
theorem vO{v:V}{u:Value}(r:RelV v u):W.handedIn u=true:=by
 cases v with
 |non=>cases (show u=Value.none from r);rfl
 |bl b=>cases (show u=Value.bool b from r);rfl
 |int i=>obtain⟨t,e⟩:=(show ∃t,u=Value.int i t from r);cases e;rfl
 |str x=>obtain⟨t,e⟩:=(show ∃t,u=Value.str x t from r);cases e;rfl
 |byt b=>obtain⟨t,e⟩:=(show ∃t,u=Value.bytes b t from r);cases e;rfl
 |flt b=>obtain⟨t,e⟩:=(show ∃t,u=Value.float b t from r);cases e;rfl
 |ref a=>cases (show u=Value.ref a from r);rfl
 |ty n=>cases (show u=Value.type n from r);rfl
section
variable{P:Program}{w:World}{H H':Hp}{h h':Heap}{a C dx:Addr}{fs fs':List (Str×V)}
theorem pc(hok:HOk P w H h)(e:H a=some (.ins C dx fs)):∃mA,ObjM h a dx C mA∧(∀f,RelO (fs.lookup f) (mA f))∧PySem.Within mA (fs.map (·.1))∧fs.length≤1000∧H dx=some (.own a):=by
 obtain⟨d,z,ne,ob,mA,n,r,q⟩:=(show ObjOk P w H h a (.ins C dx fs) from hok a _ e)
 exact⟨mA,⟨ob,n,ne⟩,r,q,z,d⟩
end
structure Cls(K:W.Frag)(C:Addr):Prop where
 pg:W.plainGet K C Str.empty=true
 hd:W.hasDictIn K C=true
 po:W.plainOver K C=true
 sa:W.findIn K (.ref C) "__setattr__"=some (some (.builtin "object.__setattr__"))
theorem Cls.get{K:W.Frag}{C:Addr}(c:Cls K C)(f:Str):W.plainGet K C f=true:=c.pg
def NoAttr(K:W.Frag)(C:Addr)(f:Str):Prop:=W.findIn K (.ref C) f=some none
theorem NoAttr.taker{K:W.Frag}{C:Addr}{f:Str}(n:NoAttr K C f):W.takerIn K C f=some none:=by
 unfold W.takerIn
 rw[show W.findIn K (.ref C) f=some none from n]
 rfl
section
variable{X:Cx}{pins:List (Addr×Obj)}{σ:St}{H:Hp}{s:Shared}{a C dx:Addr}{fs:List (Str×V)}{f:Str}{v:V}{A:Around}{E:Value→Shared→Prop}
theorem tj{b:Bool}{Q:Value→Shared→Prop}(I:Inv X pins σ H s)(e:H a=some (.ins C dx fs))(c:Cls X.K C)(n:NoAttr X.K C f)(l:fs.lookup f=some v)
 (h:∀u s',Inv X pins σ H s'→RelV v u→Q u s'):wpAny (model X.prog X.w) A (getAttr (.ref a) f b) Q E s:=by
 obtain⟨mA,O,r,_,_,_⟩:=pc I.hok e
 obtain⟨u,hu,ru⟩:=RelO.some_of (v:=v) (o:=mA f) (by rw[←l];exact r f)
 exact yp I.kIn O (c.get f) c.hd n hu (vO ru) (h u _ (I.tok _) ru)
theorem tp{y:V}{u:Value}{Q:Unit→Shared→Prop}(I:Inv X pins σ H s)(e:H a=some (.ins C dx fs))(c:Cls X.K C)(n:NoAttr X.K C f)(hl:fs.length<1000)(ry:RelV y u)
 (h:∀s',Inv X pins σ (upd H a (.ins C dx (i7 f y fs))) s'→Q () s'):wpAny (model X.prog X.w) A (setAttr (.ref a) f u) Q E s:=by
 obtain⟨mA,O,r,wi,_,ho⟩:=pc I.hok e
 have hz:(fs.map (·.1)).length≤sizeLine:=by rw[List.length_map,sizeLine_eq];omega
 refine yq I.kIn O c.sa c.po n.taker c.hd wi hz fun h' O' sb=>h _ ?_
 have hd:∃o,h'.get? dx=some o:=let⟨o,_,_,e',_⟩:=O'.ns;⟨o,e'⟩
 refine I.write (x:=a) (e:=dx) (by rw[e];exact True.intro) (.inr ho) (fun b q hb z=>(sb.2 b hb).trans z) hd ?_
 refine⟨by rw[aR O.ne];exact ho, ?_,O.ne,O'.obj,_,O'.ns,fun g=> ?_,fun g hg=> ?_⟩
 · have:=mD f y fs;omega
 · show RelO ((i7 f y fs).lookup g) (if g=f then some u else mA g)
   rw[iB]
   by_cases q:g=f
   · rw[if_pos q,if_pos q];exact ry
   · rw[if_neg q,if_neg q];exact r g
 · by_cases q:g=f
   · rw[q];exact(lN f y fs).1
   · refine(lN f y fs).2 g (wi g fun z=>hg ?_)
     show (if g=f then some u else mA g)=none
     rw[if_neg q];exact z
theorem Inv.made(I:Inv X pins σ H s):Inv X pins σ (upd (upd H s.heap.objs.size (.own (s.heap.objs.size+1))) (s.heap.objs.size+1) (.ins C s.heap.objs.size []))
 {s with heap:=(s.heap.push W.emptyDict).push (W.instObj C s.heap.objs.size)}:=by
 have e1:(s.heap.push W.emptyDict).get? s.heap.objs.size=some W.emptyDict:=Heap.get?_push_size s.heap rfl
 have e2:((s.heap.push W.emptyDict).push (W.instObj C s.heap.objs.size)).get? (s.heap.objs.size+1)=some (W.instObj C s.heap.objs.size):=by
  have:=Heap.get?_push_size (s.heap.push W.emptyDict) (o:=W.instObj C s.heap.objs.size) rfl
  rwa [Heap.size_push] at this
 have e3:(s.heap.push W.emptyDict).Ns s.heap.objs.size (fun _=>none):=⟨W.emptyDict,#[],_,e1,rfl,(fun e he=>absurd he (by simp)),fun _=>rfl⟩
 have I1:=I.laid (a:=s.heap.objs.size) (o:= .own (s.heap.objs.size+1)) (h':=s.heap.push W.emptyDict) (t':=s.toks) (fun b u q=>Heap.get?_push_of_some _ q) (Nat.le_refl _) ⟨_,e1⟩
 refine I1.laid (a:=s.heap.objs.size+1) (o:= .ins C s.heap.objs.size []) (t':=s.toks) (fun b u q=>Heap.get?_push_of_some _ q) (Nat.le_of_eq (Heap.size_push _ _)) ?_
 have ne:s.heap.objs.size≠s.heap.objs.size+1:=Nat.ne_of_lt (Nat.lt_succ_self _)
 refine⟨by rw[aR ne,aX],Nat.zero_le _,ne,e2,fun _=>none,(Heap.Ns1.of_empty e3).at fun o q=>Heap.get?_push_of_some _ q,fun _=>True.intro,fun y hy=>absurd rfl hy⟩
theorem yr{prog:Program}{w:World}{env:Env}{e:Expr}{f:Str}{pos:Pos}{s:Shared}{Q:Value→Shared→Prop}(hb:attributeBase e f env (eval e env)=eval e env)
 (h:wpAny (model prog w) A (eval e env) (fun o s₁=>wpAny (model prog w) A (getAttr o f true) Q E s₁) E s):wpAny (model prog w) A (eval (.Attribute e f pos) env) Q E s:=
 Attribute_any_ h (by rw[arm_eval_Attribute,hb])
end
def AY(K:W.Frag)(ta:TE)(f:Str):TE:=fun σ H Q=>ta σ H fun x H1=>∃a C dx fs v,x= .ref a∧H1 a=some (.ins C dx fs)∧Cls K C∧NoAttr K C f∧fs.lookup f=some v∧Q v H1
def CG(K:W.Frag)(ta tv:TE)(f:Str):TS:=fun D σ H=>tv σ H fun y H1=>ta σ H1 fun x H2=>∃a C dx fs,x= .ref a∧H2 a=some (.ins C dx fs)∧Cls K C∧NoAttr K C f∧fs.length<1000∧
 D.nx σ (upd H2 a (.ins C dx (i7 f y fs)))
section
variable{X:Cx}{o e value:Expr}{f:Str}{pos pos' tpos:Pos}{ta tv:TE}
theorem jg(he:PE X e ta)(hb:attributeBase e f X.env (eval e X.env)=eval e X.env):PE X (.Attribute e f pos) (AY X.K ta f):=by
 intro pins s σ H Q I h
 refine yr hb (thn (he pins s σ H _ I h) fun u s1 ⟨x,H1,I1,rx,a,C,dx,fs,v,ex,ea,c,n,l,q⟩=> ?_)
 subst ex
 obtain rfl:u=Value.ref a:=rx
 exact tj I1 ea c n l fun u' s2 I2 ru=>⟨v,H1,I2,ru,q⟩
theorem jh(ha:PE X o ta)(hv:PE X value tv)(hs:swapsWith value (some (.Attribute o f pos')) pos.line X.env=pure false):PS X (.Assign [.Attribute o f pos'] value pos) (CG X.K ta tv f):=by
 intro pins s σ H D I h
 refine plainObj_wpAny_Assign_Attribute (thn (hv pins s σ H _ I h) fun u s1 ⟨y,H1,I1,ry,q⟩=>thn (ha pins s1 σ H1 _ I1 q) fun ov s2 ⟨x,H2,I2,rx,a,C,dx,fs,ex,ea,c,n,l,q2⟩=> ?_) hs
 subst ex
 obtain rfl:ov=Value.ref a:=rx
 exact tp I2 ea c n l ry fun s3 I3=>⟨σ,_,I3,q2⟩
end
section
variable{X:Cx}{pins:List (Addr×Obj)}{σ:St}{H:Hp}{s:Shared}{A:Around}{E:Value→Shared→Prop}{Q:Value→Shared→Prop}{c:Value}{b:Bool}
inductive TyOf(K:W.Frag)(H:Hp):V→Value→Prop where
 |non:TyOf K H .non (.type "NoneType")
 |bl (x:Bool):TyOf K H (.bl x) (.type "bool")
 |int (i:Int):TyOf K H (.int i) (.type "int")
 |str (x:Str):TyOf K H (.str x) (.type "str")
 |flt (x:UInt64):TyOf K H (.flt x) (.type "float")
 |lst {a:Addr} {xs:List V} (e:H a=some (.lst xs)):TyOf K H (.ref a) (.type "list")
 |frz {a:Addr} {o:Obj} {xs:List V} (e:H a=some (.frz o (.lst xs))):TyOf K H (.ref a) (.type "list")
 |tup {a:Addr} {xs:List V} (e:H a=some (.tup xs)):TyOf K H (.ref a) (.type "tuple")
 |dK {a:Addr} {kvs:List (Key×V)} (e:H a=some (.dK kvs)):TyOf K H (.ref a) (.type "dict")
 |dT {a:Addr} {kvs:List (List Key×V)} (e:H a=some (.dT kvs)):TyOf K H (.ref a) (.type "dict")
 |ins {a C dx:Addr} {fs:List (Str×V)} (e:H a=some (.ins C dx fs)) (cl:Cls K C) (ha:W.findIn K (.ref C) "__class__"=some (some (.builtin "object.__class__")))
  (hn:W.specialIn K (.builtin "object.__class__") "__get__"=some (some (.builtin "getset_descriptor.__get__"))) (htk:W.takesIn K (.builtin "object.__class__")=some true)
  (hm:W.mroIn K C (.type "object")=some true):TyOf K H (.ref a) (.ref C)
theorem ou{x:V}{u t:Value}(I:Inv X pins σ H s)(rx:RelV x u)(ty:TyOf X.K H x t)(e:W.kitOne X.K t c=some b)(h:∀tk,Q (.bool b) {s with toks:=tk}):
 wpAny (model X.prog X.w) A (call (.builtin "isinstance") [u,c]) Q E s:=by
 cases ty with
 |non=>cases (show u=Value.none from rx);exact W.kia_one W.kitx_none I.kIn True.intro e (fun z=>nomatch z) h
 |bl y=>cases (show u=Value.bool y from rx);exact W.kia_one W.kitx_bool I.kIn True.intro e (fun z=>nomatch z) h
 |int i=>obtain⟨t,q⟩:=(show ∃t,u=Value.int i t from rx);cases q;exact W.kia_one W.kitx_int I.kIn True.intro e (fun z=>nomatch z) h
 |str y=>obtain⟨t,q⟩:=(show ∃t,u=Value.str y t from rx);cases q;exact W.kia_one W.kitx_str I.kIn True.intro e (fun z=>nomatch z) h
 |flt y=>obtain⟨t,q⟩:=(show ∃t,u=Value.float y t from rx);cases q;exact W.kia_one W.kitx_float I.kIn True.intro e (fun z=>nomatch z) h
 | @lst a xs ea=>
   cases (show u=Value.ref a from rx)
   obtain⟨_,_,n,_,h1⟩:=(show ObjOk X.prog X.w H s.heap a (.lst xs) from I.hok a _ ea)
   exact W.kia_one W.kitx_list I.kIn ⟨_,h1,rfl⟩ e (fun z=>nomatch z) h
 | @frz a ob xs ea=>
   cases (show u=Value.ref a from rx)
   obtain⟨_,_,_,n,_,h1⟩:=(show ObjOk X.prog X.w H s.heap a (.frz ob (.lst xs)) from I.hok a _ ea)
   exact W.kia_one W.kitx_list I.kIn ⟨_,h1,rfl⟩ e (fun z=>nomatch z) h
 | @tup a xs ea=>
   cases (show u=Value.ref a from rx)
   obtain⟨_,_,_,p⟩:=(show ObjOk X.prog X.w H s.heap a (.tup xs) from I.hok a _ ea)
   obtain⟨o,h1,h2,_⟩:=p
   exact W.kia_one W.kitx_tuple I.kIn ⟨o,h1,h2⟩ e (fun z=>nomatch z) h
 | @dK a kvs ea=>
   cases (show u=Value.ref a from rx)
   obtain⟨_,_,vs,_,p⟩:=(show ObjOk X.prog X.w H s.heap a (.dK kvs) from I.hok a _ ea)
   obtain⟨o,es,ep,h1,h2,_⟩:=p
   exact W.kia_one W.kitx_dict I.kIn ⟨o,h1,h2.1⟩ e (fun z=>nomatch z) h
 | @dT a kvs ea=>
   cases (show u=Value.ref a from rx)
   obtain⟨_,_,xs,_,o,es,ep,h1,h2,_⟩:=(show ObjOk X.prog X.w H s.heap a (.dT kvs) from I.hok a _ ea)
   exact W.kia_one W.kitx_dict I.kIn ⟨o,h1,h2.1⟩ e (fun z=>nomatch z) h
 | @ins a C dx fs ea cl ha hn htk hm=>
   cases (show u=Value.ref a from rx)
   obtain⟨mA,O,_⟩:=pc I.hok ea
   obtain⟨od,J,_⟩:=O.look
   exact W.kia_one (W.kitx_own (cl.get _) cl.hd ha hn htk hm) I.kIn J e (fun z=>nomatch z) h
end
structure Room(k:Nat)(A:Around):Prop where
 hd:A.handled=none
 dp:A.depth+3*k+5<recursionLimit
 un:A.units+16*k+200<cLine
theorem Room.mono{j k:Nat}{A:Around}(r:Room k A)(h:j≤k):Room j A:=⟨r.hd,by have:=r.dp;omega,by have:=r.un;omega⟩
theorem Room.deeper{k:Nat}{A:Around}(r:Room (k+1) A)(env:Env):Room k (A.deeper env):=
 ⟨r.hd,by have:=r.dp;show A.depth+1+3*k+5<_;omega,by have:=r.un;show A.units+3+16*k+200<_;omega⟩
theorem tq{A:Around}{C:Addr}{us:List Value}{kw:List (Str×Value)}:(A.under (.builtin "type.__call__" ⟨.ref C::us,kw⟩)).depth=A.depth+1:=by
 first|rfl|simp[Around.under,Code.weight,Code.isCreation,Code.isGuard,Code.isCaller,Code.frames,Code.isFrame,guardIds]
theorem tu{A:Around}{C:Addr}{us:List Value}{kw:List (Str×Value)}:(A.under (.builtin "type.__call__" ⟨.ref C::us,kw⟩)).units=A.units+1:=by
 first|rfl|simp[Around.under,Code.cUnits,Code.frames,Code.isFrame]
theorem Room.make{k:Nat}{A:Around}(r:Room (k+1) A)(C:Addr)(us:List Value)(kw:List (Str×Value)):Room k (A.under (.builtin "type.__call__" ⟨.ref C::us,kw⟩)):=
 ⟨r.hd,by have:=r.dp;rw[tq];omega,by have:=r.un;rw[tu];omega⟩
theorem Room.depth{k:Nat}{A:Around}(r:Room k A):A.depth<recursionLimit:=by have:=r.dp;omega
theorem Room.units{k:Nat}{A:Around}(r:Room k A):A.units+64<cLine:=by have:=r.un;omega
def qU:TA:=fun _ H Q=>Q [] H
def kC(ta:TE)(tr:TA):TA:=fun σ H Q=>ta σ H fun x H1=>tr σ H1 fun xs H2=>Q (x::xs) H2
section
variable{X:Cx}{e:Expr}{es:List Expr}{te:TE}{t:TA}{pos:Pos}
theorem ao:PA X [] qU:=fun _ _ _ _ H Q I h=>Calls.spliced_nil ⟨[],H,I, .nil,h⟩
theorem ag(ha:PE X e te)(hr:PA X es t)(hs:starEach (e::es) X.env=(false,eval e X.env)::starEach es X.env:=by rfl):PA X (e::es) (kC te t):=by
 intro pos pins s σ H Q I h
 rw[hs]
 show wpAny _ _ (spliced ((false,eval e X.env)::backTo pos (starEach es X.env))) _ _ s
 refine Calls.spliced_cons (thn (ha pins s σ H _ I h) fun u s1 ⟨x,H1,I1,r1,q1⟩=> ?_)
 exact thn (hr pos pins s1 σ H1 _ I1 q1) fun us s2 ⟨xs,H2,I2,r2,q2⟩=>⟨x::xs,H2,I2, .cons r1 r2,q2⟩
def AZ(t:TA):TE:=fun σ H Q=>t σ H fun xs H1=>xs.length≤sizeLine∧∀p,H1 p=none→Q (.ref p) (upd H1 p (.tup xs))
def CH(t:TA):TE:=fun σ H Q=>t σ H fun xs H1=>xs.length≤sizeLine∧∀p,H1 p=none→Q (.ref p) (upd H1 p (.lst xs))
theorem cR{x1}(h:PA X es t):PE X (.Tuple es x1 pos) (AZ t):=by
 intro pins s σ H Q I hq
 refine wpAny_Tuple_spliced (thn (h pos pins s σ H _ I hq) fun us s1 ⟨xs,H1,I1,r,z,q⟩=>⟨by rw[←r.length];exact z, ?_⟩)
 have hf:H1 s1.heap.objs.size=none:=I1.hok.fresh (Nat.le_refl _)
 refine⟨.ref s1.heap.objs.size,upd H1 s1.heap.objs.size (.tup xs),I1.laid (t':=s1.toks) (fun b u e=>Heap.get?_push_of_some _ e) (Nat.le_refl _) ?_,rfl,q _ hf⟩
 exact⟨z,us,r,⟨_,Heap.get?_push_size _ rfl,rfl,_,rfl⟩⟩
theorem bY(h:PA X es t):PE X (.List es pos) (CH t):=by
 intro pins s σ H Q I hq
 refine wpAny_List_spliced (thn (h pos pins s σ H _ I hq) fun us s1 ⟨xs,H1,I1,r,z,q⟩=>⟨by rw[←r.length];exact z, ?_⟩)
 have hf:H1 s1.heap.objs.size=none:=I1.hok.fresh (Nat.le_refl _)
 refine⟨.ref s1.heap.objs.size,upd H1 s1.heap.objs.size (.lst xs),I1.laid (t':=s1.toks) (fun b u e=>Heap.get?_push_of_some _ e) (Nat.le_refl _) ?_,rfl,q _ hf⟩
 exact⟨z,us,0,r,Heap.get?_push_size _ rfl⟩
end
abbrev Sp:=List V→Hp→VK→XK→Prop
abbrev CXT:=List Env→Hp→Shared→XK→Value→Shared→Prop
structure Env0(P:Program)(w:World)(K:W.Frag)(mg:Str→Option Value)(base:Heap)(A:Around)(outer:List Env)(s:Shared)(H:Hp):Prop where
 frames:A.frames=some outer
 mod:Mod K mg base
 bs:∀b o,base.get? b=some o→s.heap.get? b=some o∧H b=none
 bsz:base.objs.size≤s.heap.objs.size
 funs:s.heap.FunFrames base outer
 frf:∀b∈frs outer,H b=none
 hok:HOk P w H s.heap
 bare:AllBare s.gens
def CE(outer:List Env)(P:Program)(w:World)(H:Hp)(s:Shared)(Q:VK)(u:Value)(s':Shared):Prop:=
 ∃v H',s'.os=s.os∧AllBare s'.gens∧Un (frs outer) [] H H' s.heap s'.heap∧HOk P w H' s'.heap∧RelV v u∧Q v H'
def CR(CX:CXT)(outer:List Env)(P:Program)(w:World)(H:Hp)(s:Shared)(Q:VK)(E:XK)(r:Result)(s':Shared):Prop:=
 match r with
 | .ok (.ret u)=>CE outer P w H s Q u s'
 | .ok _=>False
 | .error e=>CX outer H s E e s'
structure FnOk(P:Program)(w:World)(K:W.Frag)(mg:Str→Option Value)(base:Heap)(CX:CXT)(k:Nat)(f:Addr)(fd:FuncData)(ps:List Str)(sp:Sp):Prop where
 len:∀vs H Q E,sp vs H Q E→vs.length=ps.length
 run:∀(A:Around) (outer:List Env) (s:Shared) (H:Hp) (args:Args) (us:List Value) (vs:List V) (Q:VK) (E:XK),Room k A→Env0 P w K mg base A outer s H→BindsTo s fd args (ps.zip us)→Vals vs us→sp vs H Q E→
  codeAny (model P w) A (.call (.ref f) args) (CR CX outer P w H s Q E) s
theorem Env0.make{P:Program}{w:World}{K:W.Frag}{mg:Str→Option Value}{base:Heap}{A:Around}{outer:List Env}{s:Shared}{H:Hp}(e:Env0 P w K mg base A outer s H)(C:Addr)(us:List Value)(kw:List (Str×Value)):
 Env0 P w K mg base (A.under (.builtin "type.__call__" ⟨.ref C::us,kw⟩)) outer s H:=⟨by first|exact e.frames|(simpa [Around.under,Code.envs,Code.isFrame,pushEnvs] using e.frames),e.mod,e.bs,e.bsz,e.funs,e.frf,e.hok,e.bare⟩
section
variable{X:Cx}{pins:List (Addr×Obj)}{σ:St}{H:Hp}{s s':Shared}
theorem Inv.env0(I:Inv X pins σ H s):Env0 X.prog X.w X.K X.mg X.base X.A X.stack s H:=
 ⟨I.ok.frames,I.ok.mod,I.bs,Nat.le_trans I.ok.bsz I.sz,I.stack,I.stkFree,I.hok,I.bare⟩
theorem Inv.after{Q:VK}{u:Value}(I:Inv X pins σ H s)(h:CE X.stack X.prog X.w H s Q u s'):EP X pins σ Q u s':=by
 obtain⟨v,H',os,bare,un,hok,r,q⟩:=h
 obtain⟨hh,g,d,t,os'⟩:=s'
 obtain rfl:os'=s.os:=os
 exact⟨v,H',I.call (h':=hh) (g':=g) (d':=d) (t':=t) (ch:=[]) un hok bare (fun b z=>absurd z (by simp)),r,q⟩
end
def oy(sp:Sp)(dvs:List V)(E:XK)(t:TA):TE:=fun σ H Q=>t σ H fun vs H1=>sp (vs++dvs) H1 Q E
def wB(C:Addr)(sp:Sp)(dvs:List V)(E:XK)(t:TA):TE:=fun σ H Q=>t σ H fun vs H1=>∀x dx,H1 x=none→H1 dx=none→dx≠x→
 sp (.ref x::(vs++dvs)) (upd (upd H1 dx (.own x)) x (.ins C dx [])) (fun v H2=>v= .non∧Q (.ref x) H2) E
def Binds(K:W.Frag)(fd:FuncData)(ps:List Str)(ds:List Value):Prop:=
 ∀(s:Shared) (us:List Value),K.In s.heap→(us++ds).length=ps.length→BindsTo s fd ⟨us,[]⟩ (ps.zip (us++ds))
theorem Binds.all{K:W.Frag}{fd:FuncData}{ps:List Str}(h:∀us:List Value,us.length=ps.length→bindArgs fd ⟨us,[]⟩=pure (ps.zip us)):Binds K fd ps []:=fun s us _ hl=>by
 rw[List.append_nil] at hl ⊢
 exact .of_eq (h us hl)
def mZ(CX:CXT)(X:Cx)(E:XK):Prop:=∀(pins:List (Addr×Obj)) (σ:St) (H:Hp) (s:Shared) (e:Value) (s':Shared),Inv X pins σ H s→CX X.stack H s E e s'→X.xe e s'
section
variable{X:Cx}{CX:CXT}{k:Nat}{f C:Addr}{fd:FuncData}{ps:List Str}{sp:Sp}{dvs:List V}{ds:List Value}{E:XK}{x m:Str}{p pos apos:Pos}{e o:Expr}{es:List Expr}{ta:TE}{t:TA}
theorem A0{pins:List (Addr×Obj)}{σ:St}{H:Hp}{s:Shared}{Q:VK}{us:List Value}{vs:List V}(F:FnOk X.prog X.w X.K X.mg X.base CX k f fd ps sp)(hr:Room k X.A)(hb:Binds X.K fd ps ds)(hd:Vals dvs ds)(hx:mZ CX X E)
 (I:Inv X pins σ H s)(r:Vals vs us)(h:sp (vs++dvs) H Q E):wpAny (model X.prog X.w) X.A (call (.ref f) us) (EP X pins σ Q) X.xe s:=by
 have r2:Vals (vs++dvs) (us++ds):=r.append hd
 have hl:(us++ds).length=ps.length:=by rw[←r2.length];exact F.len _ _ _ _ h
 refine wpAny_call (codeAny_mono (F.run X.A X.stack s H ⟨us,[]⟩ (us++ds) (vs++dvs) Q E hr I.env0 (hb s us I.kIn hl) r2 h) fun r s' hq=> ?_)
 cases r with
 |error e=>exact hx pins σ H s e s' I hq
 |ok fl=>
  cases fl with
  |ret u=>exact I.after hq
  |next=>exact False.elim hq
  |brk=>exact False.elim hq
  |cont=>exact False.elim hq
theorem yt(F:FnOk X.prog X.w X.K X.mg X.base CX k f fd ps sp)(hr:Room k X.A)(hg:Gl X x)(hm:X.mg x=some (.ref f))(hk:W.keepIn X.K (.ref f)=true)(hb:Binds X.K fd ps ds)(hd:Vals dvs ds)(hx:mZ CX X E)
 (ha:PA X (e::es) t)(hdb:(x==("__debug__":Str))=false:=by decide)(he:starEach (e::es) X.env=(false,eval e X.env)::starEach es X.env:=by rfl)(hpl:(backTo pos (starEach es X.env)).any (·.1)=false:=by rfl):
 PE X (.Call (.Name x p) (e::es) [] pos) (oy sp dvs E t):=by
 intro pins s σ H Q I h
 refine wpAny_Call_Name_kw (oZ I hg hm ?_ hdb)
 refine W.callWith_K (h₀:=X.base) I.ok.mod.kin hk (thn (ha pos pins s σ H _ I h) fun us s1 ⟨vs,H1,I1,r,q⟩=>⟨I1.kIn, ?_⟩) he hpl
 exact A0 F hr hb hd hx I1 r q
structure Mk(K:W.Frag)(C f:Addr):Prop where
 makes:W.makesIn K C=true
 init:W.findIn K (.ref C) "__init__"=some (some (.ref f))
 fn:W.isFn K (.ref f)=true
 kp:W.keepIn K (.ref C)=true
theorem wC{pins:List (Addr×Obj)}{σ:St}{H:Hp}{s:Shared}{Q:VK}{us:List Value}{vs:List V}(M:Mk X.K C f)(F:FnOk X.prog X.w X.K X.mg X.base CX k f fd ps sp)(hr:Room (k+1) X.A)(hb:Binds X.K fd ps ds)(hd:Vals dvs ds)
 (hx:mZ CX X E)(I:Inv X pins σ H s)(r:Vals vs us)
 (h:∀x dx,H x=none→H dx=none→dx≠x→sp (.ref x::(vs++dvs)) (upd (upd H dx (.own x)) x (.ins C dx [])) (fun v H2=>v= .non∧Q (.ref x) H2) E):
 wpAny (model X.prog X.w) X.A (call (.ref C) us) (EP X pins σ Q) X.xe s:=by
 have hq:=h (s.heap.objs.size+1) s.heap.objs.size (I.hok.fresh (Nat.le_succ _)) (I.hok.fresh (Nat.le_refl _)) (Nat.ne_of_lt (Nat.lt_succ_self _))
 have I2:=Inv.made (C:=C) I
 have r2:Vals (V.ref (s.heap.objs.size+1)::(vs++dvs)) (Value.ref (s.heap.objs.size+1)::(us++ds)):= .cons rfl (r.append hd)
 have hl:(Value.ref (s.heap.objs.size+1)::us++ds).length=ps.length:=by
  have e:=r2.length
  rw[F.len _ _ _ _ hq] at e
  exact e.symm
 refine wpAny_call (wA (f:=f) I.kIn M.makes M.init (beq_iff_eq.mp M.fn) (codeAny_mono (F.run _ X.stack _ _ ⟨Value.ref (s.heap.objs.size+1)::us,[]⟩ (Value.ref (s.heap.objs.size+1)::(us++ds)) _ _ E (hr.make C us [])
  (I2.env0.make C us []) (hb _ (Value.ref (s.heap.objs.size+1)::us) I2.kIn hl) r2 hq) fun r s' hq'=> ?_))
 cases r with
 |error e=>exact hx pins σ _ _ e s' I2 hq'
 |ok fl=>
  cases fl with
  |ret u=>
   obtain⟨v,H',I3,rv,ev,q3⟩:=I2.after hq'
   subst ev
   exact⟨rv,⟨V.ref (s.heap.objs.size+1),H',I3,rfl,q3⟩⟩
  |next=>exact False.elim hq'
  |brk=>exact False.elim hq'
  |cont=>exact False.elim hq'
theorem yu(M:Mk X.K C f)(F:FnOk X.prog X.w X.K X.mg X.base CX k f fd ps sp)(hr:Room (k+1) X.A)(hg:Gl X x)(hm:X.mg x=some (.ref C))(hb:Binds X.K fd ps ds)(hd:Vals dvs ds)(hx:mZ CX X E)
 (ha:PA X (e::es) t)(hdb:(x==("__debug__":Str))=false:=by decide)(he:starEach (e::es) X.env=(false,eval e X.env)::starEach es X.env:=by rfl)(hpl:(backTo pos (starEach es X.env)).any (·.1)=false:=by rfl):
 PE X (.Call (.Name x p) (e::es) [] pos) (wB C sp dvs E t):=by
 intro pins s σ H Q I h
 refine wpAny_Call_Name_kw (oZ I hg hm ?_ hdb)
 refine W.callWith_K (h₀:=X.base) I.ok.mod.kin M.kp (thn (ha pos pins s σ H _ I h) fun us s1 ⟨vs,H1,I1,r,q⟩=>⟨I1.kIn, ?_⟩) he hpl
 exact wC M F hr hb hd hx I1 r q
end
section
variable{X:Cx}{CX:CXT}{k:Nat}{f C:Addr}{fd:FuncData}{ps ks:List Str}{sp:Sp}{E:XK}{x m:Str}{p pos apos kpos:Pos}{e o:Expr}{es:List Expr}{kws:List Keyword}{te ta:TE}{t tk:TA}{nm:Option Str}
variable{g:List Value→List Value→List Value}{gV:List V→List V→List V}
end
structure FnScope(N P:List Str)(sc:Scope):Prop where
 kind:sc.kind= .function
 co:sc.isCoroutine=false
 gen:sc.isGenerator=false
 nd:N.Nodup
 pre:N.take P.length=P
 par:∀x∈P,sc.names.lookup x=some .local∨sc.names.lookup x=some .cell
 nofree:∀y∈sc.names,y.2≠ .free
theorem oz{kindOf:Str→Option NameKind}{x:Str}:∀{binds:List (Str×Value)} {m:Str→Option Value},(∀v,(x,v)∉binds)→bindL kindOf binds m x=m x
 |[],_,_=>rfl
 |(n,v)::r,m,h=>by
  unfold bindL
  rw[oz fun w hw=>h w (List.mem_cons_of_mem _ hw)]
  split
  · have:x≠n:=by rintro rfl;exact h v List.mem_cons_self
    simp[this]
  · rfl
theorem oA{kindOf:Str→Option NameKind}{x:Str}:∀{binds:List (Str×Value)} {m:Str→Option Value},(∀v,(x,v)∉binds)→bindC kindOf binds m x=m x
 |[],_,_=>rfl
 |(n,v)::r,m,h=>by
  unfold bindC
  rw[oA fun w hw=>h w (List.mem_cons_of_mem _ hw)]
  split
  · rfl
  · have:x≠n:=by rintro rfl;exact h v List.mem_cons_self
    simp[this]
theorem oB{kindOf:Str→Option NameKind}{x:Str}{v:Value}:∀{P:List Str} {vs:List Value} {i:Nat} {m:Str→Option Value},P.Nodup→P[i]? =some x→vs[i]? =some v→kindOf x=some .local→
 bindL kindOf (P.zip vs) m x=some v
 |[],_,_,_,_,h,_,_=>by simp at h
 |_::_,[],_,_,_,_,h,_=>by simp at h
 |p::P,w::vs,0,m,nd,h1,h2,hk=>by
  simp at h1 h2;subst h1;subst h2
  show bindL kindOf ((p,w)::P.zip vs) m p=_
  unfold bindL
  rw[oz fun v hv=>(List.nodup_cons.mp nd).1 (List.of_mem_zip hv).1,if_pos hk]
  simp
 |p::P,w::vs,i+1,m,nd,h1,h2,hk=>by
  show bindL kindOf ((p,w)::P.zip vs) m x=_
  unfold bindL
  exact oB (i:=i) (List.nodup_cons.mp nd).2 (by simpa using h1) (by simpa using h2) hk
theorem oC{kindOf:Str→Option NameKind}{x:Str}{v:Value}:∀{P:List Str} {vs:List Value} {i:Nat} {m:Str→Option Value},P.Nodup→P[i]? =some x→vs[i]? =some v→kindOf x≠some .local→
 bindC kindOf (P.zip vs) m x=some v
 |[],_,_,_,_,h,_,_=>by simp at h
 |_::_,[],_,_,_,_,h,_=>by simp at h
 |p::P,w::vs,0,m,nd,h1,h2,hk=>by
  simp at h1 h2;subst h1;subst h2
  show bindC kindOf ((p,w)::P.zip vs) m p=_
  unfold bindC
  rw[oA fun v hv=>(List.nodup_cons.mp nd).1 (List.of_mem_zip hv).1,if_neg hk]
  simp
 |p::P,w::vs,i+1,m,nd,h1,h2,hk=>by
  show bindC kindOf ((p,w)::P.zip vs) m x=_
  unfold bindC
  exact oC (i:=i) (List.nodup_cons.mp nd).2 (by simpa using h1) (by simpa using h2) hk
def start(N:List Str)(vs:List V):St:=vs.map some++List.replicate (N.length-vs.length) none
def vP(CX:CXT)(P:Program)(w:World)(K:W.Frag)(mg:Str→Option Value)(base:Heap)(N:List Str)(qual:Str)(scope:Scope)(f:Addr)(cd:Value)(A:Around)(outer:List Env)(s:Shared)(H:Hp)(E:XK):Cx where
 prog:=P
 w:=w
 K:=K
 mg:=mg
 base:=base
 A:=A.deeper (envOfC qual scope s.heap.objs.size f cd)
 N:=N
 s₀:=s
 H₀:=H
 env:=envOfC qual scope s.heap.objs.size f cd
 outer:=outer
 stack:=envOfC qual scope s.heap.objs.size f cd::outer
 ex:=[]
 calm:=true
 fn:=fun _=>true
 pn:=[]
 xe:=fun e s'=>wpAny (model P w) (A.deeper (envOfC qual scope s.heap.objs.size f cd)) (leaving (envOfC qual scope s.heap.objs.size f cd) e) (fun _ s''=>CX outer H s E e s'') (fun e' s''=>CX outer H s E e' s'') s'
theorem qV{sc:Scope}{n:Nat}{x:Str}(h:sc.names.lookup x=some .cell):∃c,(cellsFrom n sc.names []).lookup x=some c:=by
 have q:=W.cellsFrom_some sc.names n [] (.inl h)
 exact Option.isSome_iff_exists.mp q
theorem vQ{CX:CXT}{P:Program}{w:World}{K:W.Frag}{mg:Str→Option Value}{base:Heap}{N ps:List Str}{qual:Str}{scope:Scope}{f:Addr}{cd:Value}{A:Around}{outer:List Env}{s s1:Shared}{H:Hp}{E:XK}{us:List Value}{vs:List V}
 (S:FnScope N ps scope)(hd:A.handled=none)(e0:Env0 P w K mg base A outer s H)(hl:vs.length=ps.length)(r:Vals vs us)
 (x:InCallC s s.heap.objs.size (bindL (envOfC qual scope s.heap.objs.size f cd).kindOf (ps.zip us) fun _=>none) (cellsFrom (s.heap.objs.size+1) scope.names []) (bindC (envOfC qual scope s.heap.objs.size f cd).kindOf (ps.zip us) fun _=>none) s1):
 Inv (vP CX P w K mg base N qual scope f cd A outer s H E) [] (start N vs) H s1:=by
 have hpl:ps.length≤N.length:=by have:=congrArg List.length S.pre;rw[List.length_take] at this;omega
 obtain⟨h1,tk,rfl,hk⟩:=x.done
 have noA:∀b:Addr,b∉(vP CX P w K mg base N qual scope f cd A outer s H E).ex:=fun b z=>absurd (show b∈([]:List Addr) from z) (by simp)
 refine⟨⟨e0.mod,S.kind,rfl,rfl,Nat.le_refl _,fun y z c h1 h2=> ?_,fun y hy=> ?_,fun y c _ h=> ?_,fun _=>hd,Around.frames_deeper e0.frames, .inr ⟨rfl,rfl⟩,fun b z=>absurd z (noA b),e0.bs,e0.bsz,fun b _ _=>noA b,fun b z=>absurd z (noA b),e0.funs,e0.frf⟩,
  rfl,e0.bare,Un.kept hk,⟨_,x.toInCall.ns,fun i y v h1 h2 h3=> ?_⟩,fun y c h=>⟨_,x.cell y c h⟩,e0.hok.fresh (Nat.le_refl _),fun y c h=> ?_,fun p hp=>absurd (show p∈([]:List (Addr×Obj)) from hp) (by simp),e0.hok.kept hk, ?_⟩
 · exact name_of_addr x.apart (PySem.mem_of_lookup h1) (PySem.mem_of_lookup h2)
 · have hy:scope.names.lookup y=some .cell∨scope.names.lookup y=some .free:=hy
   rcases hy with hy|hy
   · exact qV hy
   · exact absurd rfl (S.nofree _ (PySem.mem_of_lookup hy))
 · exact Nat.le_of_lt (x.above y c (PySem.mem_of_lookup h))
 · have hi:i<vs.length:=by
    unfold start at h2
    by_cases hi:i<vs.length
    · exact hi
    · rw[List.getElem?_append_right (by simpa using hi)] at h2
      rw[List.getElem?_replicate] at h2
      split at h2<;>cases h2
   have ha:vs[i]? =some v:=by
    unfold start at h2
    rw[List.getElem?_append_left (by simpa using hi),List.getElem?_map] at h2
    cases e:vs[i]? with
    |none=>rw[e] at h2;cases h2
    |some a=>rw[e] at h2;cases h2;rfl
   obtain⟨u,hu,rv⟩:=r.get ha
   have hp:ps[i]? =some y:=by
    rw[←S.pre,List.getElem?_take_of_lt (by omega)];exact h1
   have ndP:ps.Nodup:=by rw[←S.pre];exact S.nd.sublist (List.take_sublist _ _)
   refine⟨u,rv, ?_⟩
   rcases S.par y (List.mem_of_getElem? hp) with k|k
   · exact .inl ⟨k,oB ndP hp hu k⟩
   · obtain⟨c,e⟩:=qV (n:=s.heap.objs.size+1) k
     refine .inr ⟨.inl k,c,e, ?_⟩
     have q:=x.cell y c e
     rw[oC ndP hp hu (by show scope.names.lookup y≠_;rw[k];decide)] at q
     exact q
 · exact e0.hok.fresh (Nat.le_of_lt (x.above y c (PySem.mem_of_lookup h)))
 · unfold start
   show _=N.length
   rw[List.length_append,List.length_map,List.length_replicate]
   omega
theorem CI{CX:CXT}{P:Program}{w:World}{K:W.Frag}{mg:Str→Option Value}{base:Heap}{k:Nat}{f:Addr}{name qual:Str}{params:Arguments}{body:List Stmt}{scope:Scope}{dV kV doc pm cdv ct oc:Value}{an od:Option Addr}
 {osl:Array (Option Value)}{N ps:List Str}{sp:Sp}(lk:K.lookup f=some ⟨oc,od, .func (W.fnOf name qual params body scope dV kV doc pm an cdv ct),osl⟩)(hcd:W.codeIn K cdv qual=true)(S:FnScope N ps scope)
 (len:∀vs H Q E,sp vs H Q E→vs.length=ps.length)
 (hbody:∀(A:Around) (outer:List Env) (s:Shared) (H:Hp) (vs:List V) (Q:VK) (E:XK),Room k (A.deeper (envOfC qual scope s.heap.objs.size f cdv))→sp vs H Q E→
  ∃t,PSs (vP CX P w K mg base N qual scope f cdv A outer s H E) body t∧t {nx:=fun _ H'=>Q .non H',rt:=Q} (start N vs) H):
 FnOk P w K mg base CX (k+1) f (W.fnOf name qual params body scope dV kV doc pm an cdv ct) ps sp:=by
 refine⟨len,fun A outer s H args us vs Q E hr e0 hb r hsp=> ?_⟩
 have hl:=len _ _ _ _ hsp
 have KX:K.In s.heap:=e0.mod.kin.keeps fun b o e=>(e0.bs b o e).1
 have lim:s.heap.NoLimit:=e0.mod.nolimit.keeps fun b o e=>(e0.bs b o e).1
 have hkind:∀y∈ps.zip us,scope.names.lookup y.1=some .local∨(scope.names.lookup y.1=some .cell∧((cellsFrom (s.heap.objs.size+1) scope.names []).lookup y.1).isSome=true):=fun⟨n,v⟩ hy=>by
  rcases S.par n (List.of_mem_zip hy).1 with q|q
  · exact .inl q
  · exact .inr ⟨q,W.cellsFrom_some _ _ _ (.inl q)⟩
 refine codeAny_call_function hr.depth (KX _ _ lk) rfl S.co S.gen rfl (W.codeRec_of KX hcd) (hb _ _ _ _ ?_)
 refine wpAny_newFunctionEnv_cells S.kind hkind fun env he s1 x=> ?_
 subst he
 refine⟨lim.keeps x.toInCall.keep,codeAny_func ?_⟩
 obtain⟨t,ht,hq⟩:=hbody A outer s H vs Q E (hr.deeper _) hsp
 have I:Inv (vP CX P w K mg base N qual scope f cdv A outer s H E) [] (start N vs) H s1:=vQ S hr.hd e0 hl r x
 refine wpAny_mono (ht [] s1 (start N vs) H _ I hq) (fun fl s' hs=> ?_) fun e s' hs=>hs
 have fin:∀{σ':St} {H':Hp} {v:V} {u:Value},Inv (vP CX P w K mg base N qual scope f cdv A outer s H E) [] σ' H' s'→RelV v u→Q v H'→CE outer P w H s Q u s':=
  fun {σ' H' v u} J rv q=>⟨v,H',J.os,J.bare,J.base,J.hok,rv,q⟩
 cases fl with
 |ret u=>
  obtain⟨v,σ',H',J,rv,q⟩:=hs
  exact fin J rv q
 |next=>
  obtain⟨σ',H',J,q⟩:=hs
  exact fin (v:=V.non) (u:=Value.none) J rfl q
 |brk=>
  obtain⟨_,_,_,q⟩:=hs
  exact False.elim q
 |cont=>
  obtain⟨_,_,_,q⟩:=hs
  exact False.elim q
end L2
namespace L2
open PySem PySem.Spec PyProof.Rows
section
variable{X:Cx}{x:Str}{p pos:Pos}{e:Expr}{es:List Expr}{t:TA}{id T:String}{r:List V→Hp→VK→Prop}
def tCB(r:List V→Hp→VK→Prop)(t:TA):TE:=fun σ H Q=>t σ H fun vs H1=>r vs H1 Q
theorem aS(hc:CallR X (.builtin id) r)(hg:Gl X x)(hm:X.mg x=none)(hv:bootBuiltins x=some (.builtin id))(ha:PA X (e::es) t)(hn:x≠"__name__":=by decide)(hdb:(x==("__debug__":Str))=false:=by decide)
 (he:starEach (e::es) X.env=(false,eval e X.env)::starEach es X.env:=by rfl)(hpl:(backTo pos (starEach es X.env)).any (·.1)=false:=by rfl):PE X (.Call (.Name x p) (e::es) [] pos) (tCB r t):=by
 intro pins s σ H Q I h
 refine wpAny_Call_Name_kw (mW I hg hm hv ?_ hn hdb)
 exact PyProof.Rows.callWith_builtin1 (thn (ha pos pins s σ H _ I h) fun us s1 ⟨vs,H1,I1,r1,q1⟩=>hc pins s1 σ H1 vs us Q I1 r1 q1) he hpl
theorem kc(hc:CallR X (.type T) r)(hg:Gl X x)(hm:X.mg x=none)(hv:bootBuiltins x=some (.type T))(ha:PA X (e::es) t)(hn:x≠"__name__":=by decide)(hdb:(x==("__debug__":Str))=false:=by decide)
 (he:starEach (e::es) X.env=(false,eval e X.env)::starEach es X.env:=by rfl)(hpl:(backTo pos (starEach es X.env)).any (·.1)=false:=by rfl):PE X (.Call (.Name x p) (e::es) [] pos) (tCB r t):=by
 intro pins s σ H Q I h
 refine wpAny_Call_Name_kw (mW I hg hm hv ?_ hn hdb)
 exact PyProof.Rows.callWith_type1 (thn (ha pos pins s σ H _ I h) fun us s1 ⟨vs,H1,I1,r1,q1⟩=>hc pins s1 σ H1 vs us Q I1 r1 q1) he hpl
end
end L2
namespace HT
open PySem PyProof.Rows
section
open PySem.SeqAt
open PySem.AutoSeq1 (wpAny_loadPart')
open PySem.MeetsSeq PySem.MeetsSeq2 PySem.MeetsSeq3
end
section
variable{prog:Program}{w:World}{A:Around}{E:Value→Shared→Prop}{s:Shared}
theorem cat_tup{t b:Addr}{vs ws:List Value}{Q:Value→Shared→Prop}(ht:IsTup s.heap t vs.toArray)(hb:IsTup s.heap b ws.toArray)(hv:vs≠[])
 (h1:ws=[]→Q (.ref t) s)(h2:ws≠[]→Q (.ref s.heap.objs.size) {s with heap:=s.heap.push {cls:= .type "tuple",data:= .seq (vs++ws).toArray}})
 (hsz:vs.length+ws.length≤sizeLine):wpAny (model prog w) A (binaryOp .Add (.ref t) (.ref b)) Q E s:=by
 obtain⟨⟨cls,dd,data,sl⟩,ho,hc,n,hd⟩:=id ht
 obtain⟨⟨cls2,dd2,data2,sl2⟩,ho2,hc2,n2,hd2⟩:=id hb
 simp only at hc hd hc2 hd2
 subst hc hd hc2 hd2
 have e:vs.toArray++ws.toArray=(vs++ws).toArray:=by simp
 by_cases hw:ws=[]
 · exact concat_meets ⟨_,ho,rfl⟩ ⟨_,ho2,rfl⟩ noFill_tuple_add seq_tuple_add PySem.F.slot_tuple_add PySem.F.entry_tuple_add (PySem.F.args_tuple_add_2 _ _)
    (tuple_addW1 t b vs.toArray ws.toArray n n2 dd dd2 sl sl2 (by simpa using hv) (by simp[hw])) ⟨ho,ho2,h1 hw⟩
 · refine concat_meets ⟨_,ho,rfl⟩ ⟨_,ho2,rfl⟩ noFill_tuple_add seq_tuple_add PySem.F.slot_tuple_add PySem.F.entry_tuple_add (PySem.F.args_tuple_add_2 _ _)
    (tuple_addW2 t b vs.toArray ws.toArray n n2 dd dd2 sl sl2 (by simpa using hv) (by simpa using hw) (by rw[List.size_toArray,List.size_toArray];exact hsz)) ⟨ho,ho2, ?_⟩
   rw[e]
   exact h2 hw
def sIx(n d:Nat):Option Int→Nat
 |none=>d
 |some v=>if v<0 then(v+(n:Int)).toNat else min v.toNat n
theorem sIx_none(n d:Nat):sIx n d none=d:=rfl
theorem sIx_nat(n d k:Nat):sIx n d (some (k:Int))=min k n:=by
 show (if(k:Int)<0 then((k:Int)+(n:Int)).toNat else min (k:Int).toNat n)=min k n
 rw[if_neg (by omega),Int.toNat_natCast]
theorem A1(n d:Nat)(hd:d≤n)(o:Option Int):sIx n d o≤n:=by
 cases o with
 |none=>exact hd
 |some v=>
  show (if v<0 then(v+(n:Int)).toNat else min v.toNat n)≤n
  by_cases hv:v<0
  · rw[if_pos hv];omega
  · rw[if_neg hv];exact Nat.min_le_right _ _
theorem uz(v:Int)(n d:Nat):(if v<0 then max (v+(n:Int)) 0 else min v (n:Int))=((sIx n d (some v):Nat):Int):=by
 show (if v<0 then max (v+(n:Int)) 0 else min v (n:Int))=(((if v<0 then(v+(n:Int)).toNat else min v.toNat n):Nat):Int)
 by_cases hv:v<0
 · simp only[if_pos hv];omega
 · simp only[if_neg hv];omega
theorem tw(lo hi:Option Int)(n:Nat):Builtin.Slice.sliceAdjust lo hi 1 (n:Int)=(((sIx n 0 lo:Nat):Int),((sIx n n hi:Nat):Int)):=by
 have h1:¬((1:Int)<0):=by omega
 unfold Builtin.Slice.sliceAdjust
 simp only[h1,if_false]
 refine Prod.ext ?_ ?_
 · cases lo with
   |none=>rfl
   |some v=>exact uz v n 0
 · cases hi with
   |none=>rfl
   |some v=>exact uz v n n
theorem tD(i j:Nat):Builtin.Slice.slicePlaces (i:Int) (j:Int) 1=j-i:=by
 unfold Builtin.Slice.slicePlaces
 have h1:(1:Int)>0:=by omega
 simp only[h1,if_true,Int.ediv_one]
 split<;>omega
theorem m3{v:Value}{o:Option Int}{Q:Option Int→Shared→Prop}(p:IsPart v o)(h:Q o s):wpAny (model prog w) A (Builtin.Slice.slicePartIndex v) Q E s:=by
 cases p with
 |none=>exact slicePart_none h
 |int i t=>exact slicePart_int h
theorem lO{sl:Addr}{vl vu:Value}{lo hi:Option Int}{n:Nat}{Q:Int×Int×Nat→Shared→Prop}(hs:s.heap.IsSliceOf sl vl vu .none)(pl:IsPart vl lo)(pu:IsPart vu hi)
 (h:Q (((sIx n 0 lo:Nat):Int),1,sIx n n hi-sIx n 0 lo) s):wpAny (model prog w) A (Builtin.Slice.sliceApplied (.ref sl) (pure (n:Int))) Q E s:=by
 obtain⟨os,hos,hcs,hds⟩:=id hs
 unfold Builtin.Slice.sliceApplied Builtin.Slice.sliceFields
 refine wpAny_bind (wpAny_bind (wpAny_field hos hds (x:=vl) rfl (wpAny_bind (wpAny_field hos hds (x:=vu) rfl (wpAny_bind (wpAny_field hos hds (x:= .none) rfl (wpAny_pure ?_)))))))
 refine wpAny_bind (slicePart_none ?_)
 show wpAny _ _ (if((1:Int)==0)=true then _ else _) _ _ s
 rw[if_neg (by decide)]
 refine wpAny_bind (m3 pl (wpAny_bind (m3 pu (wpAny_bind (wpAny_pure ?_)))))
 show wpAny _ _ (match Builtin.Slice.sliceAdjust lo hi 1 (n:Int) with|(lo,hi)=>pure (lo,(1:Int),Builtin.Slice.slicePlaces lo hi 1)) _ _ s
 rw[tw lo hi n]
 show wpAny _ _ (pure (((sIx n 0 lo:Nat):Int),(1:Int),Builtin.Slice.slicePlaces ((sIx n 0 lo:Nat):Int) ((sIx n n hi:Nat):Int) 1)) _ _ s
 rw[tD]
 exact wpAny_pure h
theorem wD(xs:Array Value)(i k:Nat):((List.range k).filterMap fun(m:Nat)=>xs[((i:Int)+(m:Int)*1).toNat]?).toArray=((xs.toList.drop i).take k).toArray:=by
 have e:(fun(m:Nat)=>xs[((i:Int)+(m:Int)*1).toNat]?)=fun m=>xs[i+m]? :=by
  funext m
  have:((i:Int)+(m:Int)*1).toNat=i+m:=by omega
  rw[this]
 rw[e]
 have:=pick_run xs i k
 rw[List.filterMap_map] at this
 have e2:((fun x=>xs[x]?)∘fun x=>i+x)=fun m=>xs[i+m]? :=rfl
 rw[e2] at this
 rw[this]
theorem getItem_tuple_cut{t sl:Addr}{items:Array Value}{vl vu:Value}{lo hi:Option Int}{Q:Value→Shared→Prop}(ht:IsTup s.heap t items)(hs:s.heap.IsSliceOf sl vl vu .none)(pl:IsPart vl lo)(pu:IsPart vu hi)
 (hw:¬(sIx items.size 0 lo=0∧sIx items.size items.size hi=items.size))
 (h:Q (.ref s.heap.objs.size) {s with heap:=s.heap.push {cls:= .type "tuple",data:= .seq ((items.toList.drop (sIx items.size 0 lo)).take (sIx items.size items.size hi-sIx items.size 0 lo)).toArray}})
 (hsz:items.size≤sizeLine):wpAny (model prog w) A (getItem (.ref t) (.ref sl)) Q E s:=by
 have htake:sizeOk (.seq ((items.toList.drop (sIx items.size 0 lo)).take (sIx items.size items.size hi-sIx items.size 0 lo)).toArray):=by
  show ((items.toList.drop (sIx items.size 0 lo)).take (sIx items.size items.size hi-sIx items.size 0 lo)).toArray.size≤sizeLine
  rw[List.size_toArray,List.length_take,List.length_drop,Array.length_toList]
  omega
 have hj:sIx items.size items.size hi≤items.size:=A1 _ _ (Nat.le_refl _) hi
 obtain⟨os,hos,hcs,hds⟩:=id hs
 have hTs:s.TypeIs (.ref sl) "slice":=⟨os,hos,hcs⟩
 unfold getItem
 try with_reducible refine wpAny_holding ?_
 first|refine wpAny_bind (wpAny_pure ?_)|skip
 refine wpAny_bind (wpAny_sequenceKey ht.typeIs (by decide) ?_)
 refine wpAny_bind (wpAny_callSpecial?_slot (name:=Str.ofString "__getitem__") ht.typeIs PyProof.Rows.slot_tuple_getitem
  (wpAny_call_entry PyProof.Rows.slot_tuple_getitem ht.typeIs entry_tuple_getitem ?_ (args_tuple_getitem _ _)))
 show wpAny _ _ (Builtin.Tuple.tupleItemsOf (.ref t)>>=_) _ _ s
 refine wpAny_bind (tupleItemsOf_ ht ?_)
 refine wpAny_bind (wpAny_typeOf hTs ?_)
 rw[if_pos (by decide)]
 refine wpAny_bind (lO hs pl pu ?_)
 have hno:¬((((sIx items.size 0 lo:Nat):Int)==0&&(1:Int)==1&&(sIx items.size items.size hi-sIx items.size 0 lo)==items.size)=true):=by
  intro q
  rw[Bool.and_eq_true,Bool.and_eq_true] at q
  have q1:((sIx items.size 0 lo:Nat):Int)=0:=eq_of_beq q.1.1
  have q2:sIx items.size items.size hi-sIx items.size 0 lo=items.size:=eq_of_beq q.2
  exact hw ⟨by omega,by omega⟩
 show wpAny _ _ (if(((sIx items.size 0 lo:Nat):Int)==0&&(1:Int)==1&&(sIx items.size items.size hi-sIx items.size 0 lo)==items.size)=true then _ else _) _ _ s
 rw[if_neg hno,wD]
 first
  |exact wpAny_bind (m:=Builtin.Tuple.tupleExact _) (wpAny_newObj_type (wpAny_pure ⟨_,rfl,wpAny_pure h⟩) htake)
  |exact wpAny_bind (m:=Builtin.Tuple.tupleExact _) (wpAny_newObj_type (wpAny_bind (wpAny_pure (wpAny_pure ⟨_,rfl,wpAny_pure h⟩))) htake)
  |exact wpAny_bind (wpAny_bind (m:=Builtin.Tuple.tupleExact _) (wpAny_newObj_type (wpAny_pure (wpAny_pure ⟨_,rfl,wpAny_pure h⟩)) htake))
  |exact wpAny_bind (wpAny_bind (m:=Builtin.Tuple.tupleExact _) (wpAny_newObj_type (wpAny_pure ⟨_,rfl,wpAny_pure h⟩) htake))
end
end HT
namespace L2
open PySem PySem.Spec PyProof.Rows
abbrev TO:=St→Hp→(Option Int→Hp→Prop)→Prop
def PO(X:Cx)(e:Option Expr)(t:TO):Prop:=
 ∀(pins:List (Addr×Obj)) (s:Shared) (σ:St) (H:Hp) (Q:Option Int→Hp→Prop),Inv X pins σ H s→t σ H Q→
  wpAny (model X.prog X.w) X.A (evalPart e X.env) (fun u s'=>∃o H',Inv X pins σ H' s'∧IsPart u o∧Q o H') X.xe s
def uA:TO:=fun _ H Q=>Q none H
def zY(t:TE):TO:=fun σ H Q=>t σ H fun x H1=>∃i,x= .int i∧Q (some i) H1
theorem tE{ns:List Int}:∀{us:List Value},Vals (ns.map V.int) us→IntsAre us ns:=by
 induction ns with
 |nil=>intro us r;rw[List.map_nil] at r;cases r;exact .nil
 |cons n ns ih=>
  intro us r
  rw[List.map_cons] at r
  cases r with
  |cons r1 r2=>
   obtain⟨t,e⟩:=r1
   subst e
   exact .cons n t (ih r2)
section
variable{X:Cx}{e:Expr}{te:TE}{lo hi:Option Expr}{tl th:TO}{pos p2:Pos}
theorem kU:PO X none uA:=by
 intro pins s σ H Q I h
 rw[evalPart_none]
 exact wpAny_pure ⟨none,H,I, .none,h⟩
theorem ji(h:PE X e te):PO X (some e) (zY te):=by
 intro pins s σ H Q I hw
 rw[evalPart_some]
 refine thn (h pins s σ H _ I hw) fun u s1 ⟨x,H1,I1,r1,q1⟩=> ?_
 obtain⟨i,rfl,q⟩:=q1
 obtain⟨t,rfl⟩:=r1
 exact⟨some i,H1,I1, .int i t,q⟩
def SlR(X:Cx)(r:V→Option Int→Option Int→Hp→VK→Prop):Prop:=
 ∀(pins:List (Addr×Obj)) (s:Shared) (σ:St) (H:Hp) (x:V) (v vl vu:Value) (lo hi:Option Int) (sl:Addr) (Q:VK),Inv X pins σ H s→RelV x v→s.heap.IsSliceOf sl vl vu .none→IsPart vl lo→IsPart vu hi→r x lo hi H Q→
  ∃T id,typeLookup (.type T) "__getitem__"=pure (some (.builtin id))∧s.TypeIs v T∧wpAny (model X.prog X.w) X.A (getItem v (.ref sl)) (EP X pins σ Q) X.xe s
theorem SlR.or{r r':V→Option Int→Option Int→Hp→VK→Prop}(h:SlR X r)(h':SlR X r'):SlR X (fun x lo hi H Q=>r x lo hi H Q∨r' x lo hi H Q):=by
 intro pins s σ H x v vl vu lo hi sl Q I rx hs pl pu q
 rcases q with q|q
 · exact h pins s σ H x v vl vu lo hi sl Q I rx hs pl pu q
 · exact h' pins s σ H x v vl vu lo hi sl Q I rx hs pl pu q
def tSl(r:V→Option Int→Option Int→Hp→VK→Prop)(te:TE)(tl th:TO):TE:=fun σ H Q=>te σ H fun x H1=>tl σ H1 fun l H2=>th σ H2 fun u H3=>r x l u H3 Q
theorem i8{r:V→Option Int→Option Int→Hp→VK→Prop}(hr:SlR X r)(he:PE X e te)(hl:PO X lo tl)(hu:PO X hi th):PE X (.Subscript e (.Slice lo hi none p2) pos) (tSl r te tl th):=by
 intro pins s σ H Q I h
 refine Subscript_ (thn (he pins s σ H _ I h) fun v s1 ⟨x,H1,I1,r1,q1⟩=> ?_)
 refine wpAny_Slice (thn (hl pins s1 σ H1 _ I1 q1) fun vl s2 ⟨l,H2,I2,pl,q2⟩=>thn (hu pins s2 σ H2 _ I2 q2) fun vu s3 ⟨u,H3,I3,pu,q3⟩=> ?_)
 rw[evalPart_none]
 refine wpAny_pure ?_
 have I4:Inv X pins σ H3 {s3 with heap:=s3.heap.push {cls:= .type "slice",data:= .fields #[vl,vu, .none]}}:=I3.kept (t':=s3.toks) fun b ob q=>Heap.get?_push_of_some _ q
 obtain⟨T,id,hT,ht,hg⟩:=hr pins {s3 with heap:=s3.heap.push {cls:= .type "slice",data:= .fields #[vl,vu, .none]}} σ H3 x v vl vu l u s3.heap.objs.size Q I4 r1 (Heap.IsSliceOf.new ..) pl pu q3
 show wpAny (model X.prog X.w) X.A (subscriptTail e (.Slice lo hi none p2) v (.ref s3.heap.objs.size)) (EP X pins σ Q) X.xe {s3 with heap:=s3.heap.push {cls:= .type "slice",data:= .fields #[vl,vu, .none]}}
 exact tail_any (ops:=[.ref s3.heap.objs.size,v]) ht hT hg (by with_unfolding_all rfl)
def qW(xs:List V)(lo hi:Option Int):List V:=(xs.drop (HT.sIx xs.length 0 lo)).take (HT.sIx xs.length xs.length hi-HT.sIx xs.length 0 lo)
theorem mE(xs:List V)(lo hi:Option Int):(qW xs lo hi).length≤xs.length:=by
 unfold qW
 rw[List.length_take,List.length_drop]
 omega
def CJ(K:W.Frag):V→Option Int→Option Int→Hp→VK→Prop:=fun x lo hi H Q=>∃a xs,x= .ref a∧SqT K H a xs∧
 ¬(HT.sIx xs.length 0 lo=0∧HT.sIx xs.length xs.length hi=xs.length)∧∀p,H p=none→Q (.ref p) (upd H p (.tup (qW xs lo hi)))
theorem A2:SlR X (CJ X.K):=by
 intro pins s σ H x v vl vu lo hi sl Q I rx hs pl pu h
 obtain⟨a,xs,rfl,hx,hw,q⟩:=h
 cases rx
 obtain⟨its,r,ht,hz⟩:=I.tuple hx
 have hlen:its.toArray.size=xs.length:=by rw[List.size_toArray];exact r.length.symm
 refine⟨"tuple",_,PyProof.Rows.slot_tuple_getitem.lookup,ht.typeIs, ?_⟩
 refine HT.getItem_tuple_cut ht hs pl pu (by rw[hlen];exact hw) ?_ (by rw[hlen];exact hz)
 rw[hlen]
 refine⟨.ref s.heap.objs.size,_,I.laid (t':=s.toks) (o:= .tup (qW xs lo hi)) (fun b ob q=>Heap.get?_push_of_some _ q) (Nat.le_refl _) ?_,rfl,q _ (I.hok.fresh (Nat.le_refl _))⟩
 exact⟨Nat.le_trans (mE xs lo hi) hz,_,(r.drop (HT.sIx xs.length 0 lo)).take (HT.sIx xs.length xs.length hi-HT.sIx xs.length 0 lo),IsTup.new _ _⟩
def zZ(K:W.Frag):R2:=fun x y H Q=>∃a b xs ys,x= .ref a∧y= .ref b∧SqT K H a xs∧SqT K H b ys∧xs≠[]∧xs.length+ys.length≤sizeLine∧
 (ys=[]→Q (.ref a) H)∧(ys≠[]→∀p,H p=none→Q (.ref p) (upd H p (.tup (xs++ys))))
theorem Vals.nil_iff{xs:List V}{us:List Value}(r:Vals xs us):us=[]↔xs=[]:=by
 cases r with
 |nil=>simp
 |cons _ _=>simp
theorem yw:OpR X (binaryOp .Add) (zZ X.K):=by
 intro pins s σ H x y v u Q I rx ry h
 obtain⟨a,b,xs,ys,rfl,rfl,ha,hb,hx,hz,q1,q2⟩:=h
 cases rx
 cases ry
 obtain⟨its,r1,p1,_⟩:=I.tuple ha
 obtain⟨its2,r2,p2,_⟩:=I.tuple hb
 refine HT.cat_tup p1 p2 (fun z=>hx (r1.nil_iff.mp z)) (fun z=>⟨.ref a,H,I,rfl,q1 (r2.nil_iff.mp z)⟩) (fun z=> ?_) (by rw[←r1.length,←r2.length];exact hz)
 refine⟨.ref s.heap.objs.size,_,I.laid (t':=s.toks) (o:= .tup (xs++ys)) (fun b ob q=>Heap.get?_push_of_some _ q) (Nat.le_refl _) ?_,rfl,q2 (fun w=>z (r2.nil_iff.mpr w)) _ (I.hok.fresh (Nat.le_refl _))⟩
 exact⟨by rw[List.length_append];exact hz,_,r1.append r2,IsTup.new _ _⟩
end
def ixN(n:Nat)(i:Int):Option Nat:=if 0≤i then(if i<n then some i.toNat else none) else if-(n:Int)≤i then some (i+n).toNat else none
def atI{α:Type}(xs:List α)(i:Int):Option α:=(ixN xs.length i).bind fun j=>xs[j]?
theorem yx{n:Nat}{i:Int}{j:Nat}(h:ixN n i=some j):seqIndex? i n=some j∧j<n∧ -(n:Int)≤i∧i<n:=by
 unfold ixN at h
 by_cases h0:0≤i
 · rw[if_pos h0] at h
   by_cases h1:i<n
   · rw[if_pos h1] at h
     have e:i.toNat=j:=Option.some.inj h
     exact⟨by rw[seqIndex_of h0 h1,e],by omega,by omega,h1⟩
   · rw[if_neg h1] at h;cases h
 · rw[if_neg h0] at h
   by_cases h1: -(n:Int)≤i
   · rw[if_pos h1] at h
     have e:(i+n).toNat=j:=Option.some.inj h
     exact⟨by rw[seqIndex_neg (by omega) h1,e],by omega,h1,by omega⟩
   · rw[if_neg h1] at h;cases h
theorem pd{α:Type}{xs:List α}{i:Int}{v:α}(h:atI xs i=some v):∃j,seqIndex? i xs.length=some j∧xs[j]? =some v∧j<xs.length∧ -(xs.length:Int)≤i∧i<xs.length:=by
 unfold atI at h
 cases e:ixN xs.length i with
 |none=>rw[e] at h;cases h
 |some j=>
  rw[e] at h
  obtain⟨h1,h2,h3,h4⟩:=yx e
  exact⟨j,h1,h,h2,h3,h4⟩
def yy(b:Expr):Prop:=∀o i,subscripted b false o i=operate [o,i] (getItem o i)
def IxR(X:Cx)(r:R2):Prop:=
 ∀(value slice:Expr) (pins:List (Addr×Obj)) (s:Shared) (σ:St) (H:Hp) (x y:V) (v u:Value) (Q:VK),Inv X pins σ H s→RelV x v→RelV y u→r x y H Q→
  subscripted slice false v u=operate [v,u] (getItem v u)→wpAny (model X.prog X.w) X.A (subscriptTail value slice v u) (EP X pins σ Q) X.xe s
def MtR(X:Cx)(id:String)(r:V→List V→Hp→VK→Prop):Prop:=
 ∀(pins:List (Addr×Obj)) (s:Shared) (σ:St) (H:Hp) (x:V) (xs:List V) (v:Value) (us:List Value) (Q:VK),Inv X pins σ H s→RelV x v→Vals xs us→r x xs H Q→
  wpAny (model X.prog X.w) X.A (call (.builtin id) (v::us)) (EP X pins σ Q) X.xe s
section
variable{X:Cx}{a b:Expr}{ta tb:TE}{pos:Pos}
theorem IxR.or{r r':R2}(h:IxR X r)(h':IxR X r'):IxR X (fun x y H Q=>r x y H Q∨r' x y H Q):=by
 intro value slice pins s σ H x y v u Q I rx ry q hs
 rcases q with q|q
 · exact h value slice pins s σ H x y v u Q I rx ry q hs
 · exact h' value slice pins s σ H x y v u Q I rx ry q hs
theorem aA{r:R2}(hr:IxR X r)(ha:PE X a ta)(hb:PE X b tb)(hs:yy b):PE X (.Subscript a b pos) (tOp r ta tb):=by
 intro pins s σ H Q I h
 exact Subscript_ (AT ha hb I h fun v u s2 x y H2 I2 rx ry q=>hr a b pins s2 σ H2 x y v u Q I2 rx ry q (hs _ _))
def CK(K:W.Frag):R2:=fun x y H Q=>∃p xs i v,x= .ref p∧y= .int i∧SqL K H p xs∧atI xs i=some v∧Q v H
def CL(K:W.Frag):R2:=fun x y H Q=>∃p xs i v,x= .ref p∧y= .int i∧SqT K H p xs∧atI xs i=some v∧Q v H
def CM:R2:=fun x y H Q=>∃z i c,x= .str z∧y= .int i∧z.length≤sizeLine∧atI z.cps.toList i=some c∧Q (.str ⟨#[c]⟩) H
theorem yz:IxR X (CK X.K):=by
 intro value slice pins s σ H x y v u Q I rx ry h hs
 obtain⟨p,xs,i,z,rfl,rfl,hq,he,q⟩:=h
 cases rx
 obtain⟨t,rfl⟩:=ry
 obtain⟨its,r,pl,hz⟩:=I.list hq
 obtain⟨j,h1,h2,h3,h4,h5⟩:=pd he
 obtain⟨w,ew,rw'⟩:=r.get h2
 have hl:=r.length
 have hn:=lM
 have fin:EP X pins σ Q w s:=⟨z,H,I,rw',q⟩
 by_cases h0:0≤i
 · have hj:i.toNat=j:=by
    rw[seqIndex_of h0 h5] at h1
    exact Option.some.inj h1
   exact item_listR pl.isList h0 (by omega) (by rw[hj];simpa using ew) fin hs
 · have hj:(i+(its.toArray.size:Int)).toNat=j:=by
    rw[seqIndex_neg (by omega) h4] at h1
    rw[List.size_toArray,←hl]
    exact Option.some.inj h1
   exact subscriptTail_builtinR (x:=w) pl.isList.typeIs slot_list_getitem.lookup
    (wpAny_getItem_list_neg (Q:=fun r s'=>r=w∧EP X pins σ Q r s') pl.isList (by omega) (by rw[List.size_toArray]<;>omega) (by omega) (by rw[hj];simpa using ew) ⟨rfl,fin⟩) hs
theorem A3:IxR X (CL X.K):=by
 intro value slice pins s σ H x y v u Q I rx ry h hs
 obtain⟨p,xs,i,z,rfl,rfl,hq,he,q⟩:=h
 cases rx
 obtain⟨t,rfl⟩:=ry
 obtain⟨its,r,pl,hz⟩:=I.tuple hq
 obtain⟨j,h1,h2,h3,h4,h5⟩:=pd he
 obtain⟨w,ew,rw'⟩:=r.get h2
 have hl:=r.length
 have hn:=lM
 have fin:EP X pins σ Q w s:=⟨z,H,I,rw',q⟩
 exact subscriptTail_builtinR (x:=w) pl.typeIs slot_tuple_getitem.lookup
  (getItem_tuple (j:=j) (Q:=fun r s'=>r=w∧EP X pins σ Q r s') pl (by omega) (by omega) (by rw[List.size_toArray,←hl];exact h1) (by simpa using ew) ⟨rfl,fin⟩) hs
theorem A4:IxR X CM:=by
 intro value slice pins s σ H x y v u Q I rx ry h hs
 obtain⟨z,i,c,rfl,rfl,hz,he,q⟩:=h
 obtain⟨t,rfl⟩:=rx
 obtain⟨t',rfl⟩:=ry
 obtain⟨j,h1,h2,h3,h4,h5⟩:=pd he
 have hl:z.cps.toList.length=z.length:=by simp[Str.length]
 rw[hl] at h1 h4 h5
 have hn:=lM
 exact tail_any (typeIs_str s z t) slot_str_getitem.lookup (getItem_str (c:=c) (by
  have e1:decide (i< -(2^63:Int))=false:=decide_eq_false (by omega)
  have e2:decide (i≥2^63)=false:=decide_eq_false (by omega)
  rw[e1,e2,Bool.or_false]) (by rw[h1];simpa using h2) ⟨.str ⟨#[c]⟩,H,I.tok _,⟨_,rfl⟩,q⟩) hs
def rIx(K:W.Frag):R2:=fun x y H Q=>CK K x y H Q∨CL K x y H Q∨CM x y H Q
theorem az:IxR X (rIx X.K):=yz.or (A3.or A4)
theorem pf(lo hi:Option Int)(n:Nat):(sliceBounds lo hi none n).1=((HT.sIx n 0 lo:Nat):Int)∧(sliceBounds lo hi none n).2.1=((HT.sIx n n hi:Nat):Int)∧(sliceBounds lo hi none n).2.2=1:=by
 refine⟨?_, ?_,rfl⟩
 · cases lo with
   |none=>simp[sliceBounds,HT.sIx]
   |some i=>
    simp only[sliceBounds,HT.sIx,Option.getD_none,show (1:Int)>0 by decide,if_true]
    by_cases h:i<0
    · simp only[h,if_true]<;>omega
    · simp only[h,if_false]<;>omega
 · cases hi with
   |none=>simp[sliceBounds,HT.sIx]
   |some i=>
    simp only[sliceBounds,HT.sIx,Option.getD_none,show (1:Int)>0 by decide,if_true]
    by_cases h:i<0
    · simp only[h,if_true]<;>omega
    · simp only[h,if_false]<;>omega
theorem nZ(its:List Value)(lo hi:Option Int):slicePick its.toArray lo hi none=((its.drop (HT.sIx its.length 0 lo)).take (HT.sIx its.length its.length hi-HT.sIx its.length 0 lo)).toArray:=by
 obtain⟨h1,h2,h3⟩:=pf lo hi its.toArray.size
 unfold slicePick
 rw[h1,h2,h3]
 simp only[sliceRange_one,pick_run,List.size_toArray]<;>rfl
def CN(K:W.Frag):V→Option Int→Option Int→Hp→VK→Prop:=fun x lo hi H Q=>∃a xs,x= .ref a∧SqL K H a xs∧∀p,H p=none→Q (.ref p) (upd H p (.lst (qW xs lo hi)))
theorem yA:SlR X (CN X.K):=by
 intro pins s σ H x v vl vu lo hi sl Q I rx hs pl pu h
 obtain⟨a,xs,rfl,hx,q⟩:=h
 cases rx
 obtain⟨its,r,ht,hz⟩:=I.list hx
 have hlen:=r.length
 refine⟨"list",_,slot_list_getitem.lookup,ht.isList.typeIs, ?_⟩
 refine wpAny_getItem_list_slice ht.isList hs pl pu .none (by simp) ?_ (by rw[List.size_toArray]<;>omega)
 rw[nZ,←hlen]
 refine⟨.ref s.heap.objs.size,_,I.laid (t':=s.toks) (o:= .lst (qW xs lo hi)) (fun b ob q=>Heap.get?_push_of_some _ q) (Nat.le_refl _) ?_,rfl,q _ (I.hok.fresh (Nat.le_refl _))⟩
 exact⟨Nat.le_trans (mE xs lo hi) hz,_,0,(r.drop (HT.sIx xs.length 0 lo)).take (HT.sIx xs.length xs.length hi-HT.sIx xs.length 0 lo),Heap.get?_push_size _ rfl⟩
def uB:V→Bool
 | .non=>true
 | .bl _=>true
 | .int _=>true
 | .str _=>true
 |_=>false
def eqV:V→V→Bool
 | .non, .non=>true
 | .bl a, .bl b=>a==b
 | .bl a, .int b=>(if a then 1 else 0)==b
 | .int a, .bl b=>a==(if b then 1 else 0)
 | .int a, .int b=>a==b
 | .str a, .str b=>a==b
 |_,_=>false
theorem A5{A:Around}{s:Shared}{y x:V}{u v:Value}(ry:RelV y u)(rx:RelV x v)(fy:uB y=true)(fx:uB x=true):SeqAt.EqAt A s u v (eqV y x):=by
 cases y with
 |non=>
  cases ry
  cases x with
  |non=>cases rx;exact SeqAt.EqAt.same _
  |bl b=>cases rx;exact SeqAt.EqAt.none_bool b
  |int b=>obtain⟨t,rfl⟩:=rx;exact SeqAt.EqAt.none_int b t
  |str b=>obtain⟨t,rfl⟩:=rx;exact SeqAt.EqAt.none_str b t
  |_=>exact absurd (show false=true from fx) Bool.false_ne_true
 |bl a=>
  cases ry
  cases x with
  |non=>cases rx;exact SeqAt.EqAt.bool_none a
  |bl b=>cases rx;exact SeqAt.EqAt.bool_bool a b
  |int b=>obtain⟨t,rfl⟩:=rx;exact SeqAt.EqAt.bool_int a b t
  |str b=>obtain⟨t,rfl⟩:=rx;exact SeqAt.EqAt.bool_str a b t
  |_=>exact absurd (show false=true from fx) Bool.false_ne_true
 |int a=>
  obtain⟨t',rfl⟩:=ry
  cases x with
  |non=>cases rx;exact SeqAt.EqAt.int_none a t'
  |bl b=>cases rx;exact SeqAt.EqAt.int_bool a t' b
  |int b=>obtain⟨t,rfl⟩:=rx;exact SeqAt.EqAt.int_int a t' b t
  |str b=>obtain⟨t,rfl⟩:=rx;exact SeqAt.EqAt.int_str a t' b t
  |_=>exact absurd (show false=true from fx) Bool.false_ne_true
 |str a=>
  obtain⟨t',rfl⟩:=ry
  cases x with
  |non=>cases rx;exact SeqAt.EqAt.str_none a t'
  |bl b=>cases rx;exact SeqAt.EqAt.str_bool a t' b
  |int b=>obtain⟨t,rfl⟩:=rx;exact SeqAt.EqAt.str_int a t' b t
  |str b=>obtain⟨t,rfl⟩:=rx;exact SeqAt.EqAt.str_str a t' b t
  |_=>exact absurd (show false=true from fx) Bool.false_ne_true
 |_=>exact absurd (show false=true from fy) Bool.false_ne_true
theorem ph:CallR X (.builtin "len") (fun xs H Q=>∃p ys,xs=[.ref p]∧(SqL X.K H p ys∨SqT X.K H p ys)∧Q (.int ys.length) H):=by
 intro pins s σ H xs us Q I r h
 obtain⟨p,ys,rfl,hq,q⟩:=h
 obtain⟨u,rfl,rx⟩:=qS r
 cases rx
 have hn:=lM
 rcases hq with hq|hq
 · obtain⟨its,r',pl,hz⟩:=I.list hq
   have hlen:=r'.length
   exact Calls.call_len_list pl.isList (by simp only[List.size_toArray]<;>omega) ⟨.int ys.length,H,I.tok _,⟨s.toks+1,by rw[List.size_toArray,hlen]⟩,q⟩
 · obtain⟨its,r',pl,hz⟩:=I.tuple hq
   have hlen:=r'.length
   exact len_tuple pl (by simp only[List.size_toArray]<;>omega) ⟨.int ys.length,H,I.tok _,⟨s.toks+1,by rw[List.size_toArray,hlen]⟩,q⟩
theorem pi:CallR X (.builtin "len") (fun xs H Q=>∃z,xs=[.str z]∧z.length≤sizeLine∧Q (.int z.length) H):=by
 intro pins s σ H xs us Q I r h
 obtain⟨z,rfl,hz,q⟩:=h
 obtain⟨u,rfl,t,rfl⟩:=qS r
 have hn:=lM
 exact len_str (by omega) ⟨.int z.length,H,I.tok _,⟨_,rfl⟩,q⟩
theorem CallR.or{f:Value}{r r':List V→Hp→VK→Prop}(h:CallR X f r)(h':CallR X f r'):CallR X f (fun xs H Q=>r xs H Q∨r' xs H Q):=by
 intro pins s σ H xs us Q I rs q
 rcases q with q|q
 · exact h pins s σ H xs us Q I rs q
 · exact h' pins s σ H xs us Q I rs q
theorem gY:CallR X (.type "list") (fun xs H Q=>∃p ys,xs=[.ref p]∧(SqL X.K H p ys∨SqT X.K H p ys)∧∀l,H l=none→Q (.ref l) (upd H l (.lst ys))):=by
 intro pins s σ H xs us Q I r h
 obtain⟨p,ys,rfl,hq,q⟩:=h
 obtain⟨u,rfl,rx⟩:=qS r
 cases rx
 have fin:∀(its:List Value),Vals ys its→ys.length≤sizeLine→∀(h':Heap) (c':Nat),(∀b o',s.heap.get? b=some o'→h'.get? b=some o')→
  h'.get? s.heap.objs.size=some {cls:= .type "list",dict:=none,data:= .seq its.toArray c',slots:= #[]}→EP X pins σ Q (.ref s.heap.objs.size) {s with heap:=h'}:=fun its r' hz h' c' kp e=>
  ⟨.ref s.heap.objs.size,_,I.laid (t':=s.toks) kp (Nat.le_refl _) (show ObjOk X.prog X.w _ h' _ (.lst ys) from⟨hz,its,c',r',e⟩),rfl,q _ (I.hok.fresh (Nat.le_refl _))⟩
 rcases hq with hq|hq
 · obtain⟨its,r',pl,hz⟩:=I.list hq
   have hlen:=r'.length
   obtain⟨o,ho,hc,n,hd⟩:=pl.isList
   exact call_list_seq p (.inl rfl) ho hc hd (fun h' c' kp e=>fin its r' hz h' c' kp e) (by simp only[List.size_toArray]<;>omega)
 · obtain⟨its,r',pl,hz⟩:=I.tuple hq
   have hlen:=r'.length
   obtain⟨o,ho,hc,n,hd⟩:=pl
   exact call_list_seq p (.inr rfl) ho hc hd (fun h' c' kp e=>fin its r' hz h' c' kp e) (by simp only[List.size_toArray]<;>omega)
def tyV(K:W.Frag)(T:String)(x:V)(H:Hp):Prop:=match x with
 | .str _=>T="str"
 | .int _=>T="int"
 | .ref p=>(T="list"∧∃xs,SqL K H p xs)∨(T="tuple"∧∃o,K.lookup p=some o∧o.cls= .type "tuple"∧o.dict=none)∨
  (T="dict"∧((∃kvs,H p=some (.dK kvs))∨∃kvs,H p=some (.dT kvs)))∨(T="set"∧∃S n,H p=some (.set S n))
 |_=>False
theorem A6{pins:List (Addr×Obj)}{σ:St}{H:Hp}{s:Shared}{T:String}{x:V}{v:Value}(I:Inv X pins σ H s)(r:RelV x v)(ty:tyV X.K T x H):
 s.TypeIs v T∧∀a,v= .ref a→∃ob,s.heap.get? a=some ob∧ob.dict=none:=by
 cases x with
 |str z=>
  obtain⟨t,rfl⟩:=r
  cases (show T="str" from ty)
  exact⟨typeIs_str s z t,fun _ e=>nomatch e⟩
 |int i=>
  obtain⟨t,rfl⟩:=r
  cases (show T="int" from ty)
  exact⟨typeIs_int s i t,fun _ e=>nomatch e⟩
 |ref p=>
  cases r
  rcases ty with⟨rfl,xs,hq⟩|⟨rfl,o,hk,hc,hd⟩|⟨rfl,hk⟩|⟨rfl,S,n,hk⟩
  · obtain⟨its,_,pl,_⟩:=I.list hq
    refine⟨pl.isList.typeIs,fun a e=> ?_⟩
    cases e
    obtain⟨o,n,e,c,hd,_⟩:=pl
    exact⟨o,e,hd⟩
  · refine⟨⟨o,I.kIn p o hk,hc⟩,fun a e=> ?_⟩
    cases e
    exact⟨o,I.kIn _ o hk,hd⟩
  · have z:∃o,s.heap.get? p=some o∧o.ExactDict:=by
     rcases hk with⟨kvs,hk⟩|⟨kvs,hk⟩
     · obtain⟨_,_,_,_,o,_,_,e,ex,_⟩:=I.hok p _ hk
       exact⟨o,e,ex⟩
     · obtain⟨_,_,_,_,o,_,_,e,ex,_⟩:=I.hok p _ hk
       exact⟨o,e,ex⟩
    obtain⟨o,e,ex⟩:=z
    refine⟨⟨o,e,ex.1⟩,fun a e2=> ?_⟩
    cases e2
    exact⟨o,e,ex.2.1⟩
  · obtain⟨o,_,_,_,e,ex,_⟩:=I.hok p _ hk
    refine⟨⟨o,e,ex.1⟩,fun a e2=> ?_⟩
    cases e2
    exact⟨o,e,ex.2.1⟩
 |_=>exact False.elim ty
def tBM(K:W.Frag)(T:String)(r:V→List V→Hp→VK→Prop)(to:TE)(t:TA):TE:=fun σ H Q=>to σ H fun x H1=>tyV K T x H1∧t σ H1 fun xs H2=>r x xs H2 Q
variable{o e:Expr}{es:List Expr}{to:TE}{t:TA}{name:Str}{apos cpos:Pos}{T id:String}{r:V→List V→Hp→VK→Prop}
theorem iC(pa:PlainAttrs T)(slot:Slot T name id)(hty:typeOf (.builtin id)=pure (.type "method_descriptor"))(hm:MtR X id r)(ho:PE X o to)(ha:PA X (e::es) t)
 (hbase:attributeBase o name X.env (eval o X.env)=eval o X.env:=by rfl)
 (hfew:((backTo cpos (starEach (e::es) X.env)).all (fun x=> !x.1)&&(backToKw cpos (keywordEach [] X.env)).all (fun x=>x.1.isSome)
  &&decide ((e::es).length+([]:List Keyword).length+(if([]:List Keyword).isEmpty then 0 else 1)<30))=true:=by rfl)
 (hline:(apos.endLine==cpos.line)=true:=by rfl)(hs:starEach (e::es) X.env=(false,eval e X.env)::starEach es X.env:=by rfl)(hplain:(backTo cpos (starEach es X.env)).any (·.1)=false:=by rfl):
 PE X (.Call (.Attribute o name apos) (e::es) [] cpos) (tBM X.K T r to t):=by
 intro pins s σ H Q I h
 refine wpAny_Call_method_late hbase hfew hline rfl (thn (ho pins s σ H _ I h) fun v s1 ⟨x,H1,I1,r1,ty,q1⟩=> ?_)
 obtain⟨h1,h2⟩:=A6 I1 r1 ty
 refine⟨T,id,pa,slot,hty,h1,h2, ?_⟩
 have hA:=ha cpos pins s1 σ H1 _ I1 q1
 rw[hs] at hA ⊢
 refine Calls.callWith_builtin (by show (false||(backTo cpos (starEach es X.env)).any (·.1))=false;rw[hplain]<;>rfl) (Calls.evalArgs_plain ?_)
 exact thn hA fun us s2 ⟨vs,H2,I2,r2,q2⟩=>hm pins s2 σ H2 x vs v us Q I2 r1 r2 q2
end
def MtM(X:Cx)(id:String)(r:V→List V→Hp→VK→Prop):Prop:=
 ∀(pins:List (Addr×Obj)) (s:Shared) (σ:St) (H:Hp) (x:V) (xs:List V) (v:Value) (us:List Value) (Q:VK),Inv X pins σ H s→RelV x v→Vals xs us→r x xs H Q→
  wpAny (model X.prog X.w) X.A (call (.builtin id) (v::us)) (EP X pins σ Q) X.xe s
theorem Vals.one:∀{x:V} {us:List Value},Vals [x] us→∃u,us=[u]∧RelV x u
 |_,_, .cons r .nil=>⟨_,rfl,r⟩
theorem Vals.two:∀{x y:V} {us:List Value},Vals [x,y] us→∃u v,us=[u,v]∧RelV x u∧RelV y v
 |_,_,_, .cons r (.cons q .nil)=>⟨_,_,rfl,r,q⟩
theorem Vals.rep{xs:List V}{us:List Value}(h:Vals xs us):∀k:Nat,Vals (List.replicate k xs).flatten (List.replicate k us).flatten
 |0=> .nil
 |k+1=>by
  rw[List.replicate_succ,List.replicate_succ,List.flatten_cons,List.flatten_cons]
  exact Vals.append h (Vals.rep h k)
theorem oE(its:List Value):∀(k:Nat) (acc:List Value),
 List.foldl (fun x1 x2=>x1++x2) acc.toArray (List.replicate k its.toArray)=(acc++(List.replicate k its).flatten).toArray
 |0,acc=>by simp
 |k+1,acc=>by
  have e:acc.toArray++its.toArray=(acc++its).toArray:=by simp
  have e2:(acc++its)++(List.replicate k its).flatten=acc++(List.replicate (k+1) its).flatten:=by
   rw[List.replicate_succ,List.flatten_cons,List.append_assoc]
  rw[←e2,←oE its k (acc++its),←e,List.replicate_succ,List.foldl_cons]
section
variable{X:Cx}{pins:List (Addr×Obj)}{σ:St}{H:Hp}{s:Shared}{l b:Addr}{xs ys zs:List V}
theorem Inv.lset{its its':List Value}{n:Nat}{f:Array Value→Array Value}{t':Nat}(I:Inv X pins σ H s)(hH:H l=some (.lst xs))
 (e:s.heap.get? l=some {cls:= .type "list",data:= .seq its.toArray n})(hf:f its.toArray=its'.toArray)(hv:Vals ys its')(hz:ys.length≤sizeLine):
 Inv X pins σ (upd H l (.lst ys)) {s with heap:=s.heap.update l (Obj.mapSeq f),toks:=t'}:=by
 have q:=PySem.IsL.update e f
 rw[hf] at q
 refine I.write (x:=l) (e:=l) (by rw[hH];exact trivial) (.inl rfl) (fun b' u hb hu=>(Heap.get?_update_other s.heap (Obj.mapSeq f) (Ne.symm hb)).trans hu) ⟨_,q⟩ ?_
 exact⟨hz,its',_,hv,q⟩
theorem Inv.lnew{its:List Value}{t':Nat}(I:Inv X pins σ H s)(hv:Vals ys its)(hz:ys.length≤sizeLine):
 Inv X pins σ (upd H s.heap.objs.size (.lst ys)) {s with heap:=s.heap.push {cls:= .type "list",data:= .seq its.toArray},toks:=t'}:=
 I.laid (fun _ _ q=>Heap.get?_push_of_some _ q) (Nat.le_refl _) ⟨hz,its,0,hv,Heap.get?_push_size _ rfl⟩
theorem Inv.fresh(I:Inv X pins σ H s):H s.heap.objs.size=none:=I.hok.fresh (Nat.le_refl _)
theorem Inv.lstM(I:Inv X pins σ H s)(hH:H l=some (.lst xs)):xs.length≤sizeLine∧∃(its:List Value) (n:Nat),Vals xs its∧xs.length=its.length∧s.heap.get? l=some {cls:= .type "list",data:= .seq its.toArray n}:=by
 obtain⟨z,its,n,r,e⟩:=I.hok l _ hH
 exact⟨z,its,n,r,r.length,e⟩
theorem qX{n:Nat}(h:n≤sizeLine):Builtin.List.listTooLong n=false:=by
 unfold Builtin.List.listTooLong
 exact decide_eq_false (by omega)
end
section
variable{X:Cx}
def pj:V→List V→Hp→VK→Prop:=fun x vs H Q=>∃l xs y,x= .ref l∧vs=[y]∧H l=some (.lst xs)∧xs.length<sizeLine∧Q .non (upd H l (.lst (xs++[y])))
theorem bM:MtM X "list.append" pj:=by
 intro pins s σ H x vs v us Q I rx rv h
 obtain⟨l,xs,y,rfl,rfl,hH,hz,q⟩:=h
 cases rx
 obtain⟨u,rfl,ru⟩:=rv.one
 obtain⟨z,its,n,r,hl,e⟩:=I.lstM hH
 refine call_meets F.slot_list_append ⟨_,e,rfl⟩ F.entry_list_append (F.args_list_append_2 _ _) (PySem.list_append l its.toArray n u (by rw[List.size_toArray];omega)) ⟨e, ?_⟩
 refine⟨.non,_,I.lset (its':=its++[u]) hH e (by simp) (r.append (.cons ru .nil)) ?_,rfl,q⟩
 rw[List.length_append,List.length_singleton]
 omega
def uC:V→List V→Hp→VK→Prop:=fun x vs H Q=>∃l b xs zs,x= .ref l∧vs=[.ref b]∧H l=some (.lst xs)∧H b=some (.lst zs)∧xs.length+zs.length≤sizeLine∧Q .non (upd H l (.lst (xs++zs)))
theorem vR:MtM X "list.extend" uC:=by
 intro pins s σ H x vs v us Q I rx rv h
 obtain⟨l,b,xs,zs,rfl,rfl,hH,hB,hz,q⟩:=h
 cases rx
 obtain⟨u,rfl,ru⟩:=rv.one
 cases ru
 obtain⟨z,its,n,r,hl,e⟩:=I.lstM hH
 obtain⟨z2,its2,n2,r2,hl2,e2⟩:=I.lstM hB
 have hsz:its.toArray.size+its2.toArray.size≤sizeLine:=by rw[List.size_toArray,List.size_toArray];omega
 have hlong:¬(!its.toArray.isEmpty&&Builtin.List.listTooLong (its.toArray.size+its2.toArray.size))=true:=by
  rw[qX hsz,Bool.and_false]
  exact Bool.false_ne_true
 refine call_meets F.slot_list_extend ⟨_,e,rfl⟩ F.entry_list_extend (F.args_list_extend_2 _ _)
  (AutoSeq1.list_extend_list_list_0 l its.toArray n b its2.toArray n2 hlong (by rw[List.size_toArray];omega) (by omega)) ⟨e,e2, ?_⟩
 refine⟨.non,_,I.lset (its':=its++its2) hH e (by simp) (r.append r2) ?_,rfl,q⟩
 rw[List.length_append]
 omega
def CO:R2:=fun x y H Q=>∃l b xs zs,x= .ref l∧y= .ref b∧H l=some (.lst xs)∧H b=some (.lst zs)∧xs.length+zs.length≤sizeLine∧∀p,H p=none→Q (.ref p) (upd H p (.lst (xs++zs)))
theorem A7:OpR X (binaryOp .Add) CO:=by
 intro pins s σ H x y v u Q I rx ry h
 obtain⟨l,b,xs,zs,rfl,rfl,hH,hB,hz,q⟩:=h
 cases rx
 cases ry
 obtain⟨z,its,n,r,hl,e⟩:=I.lstM hH
 obtain⟨z2,its2,n2,r2,hl2,e2⟩:=I.lstM hB
 refine PySem.P.add_list e e2 ?_ (by rw[List.size_toArray,List.size_toArray];omega)
 have ea:its.toArray++its2.toArray=(its++its2).toArray:=by simp
 rw[ea]
 exact⟨.ref _,_,I.lnew (t':=s.toks) (r.append r2) (by rw[List.length_append];omega),rfl,q _ I.fresh⟩
def CP:R2:=fun x y H Q=>∃l k xs,x= .ref l∧y= .int k∧H l=some (.lst xs)∧ -(2^63)≤k∧k<2^63∧xs.length*k.toNat≤sizeLine∧
 ∀p,H p=none→Q (.ref p) (upd H p (.lst (List.replicate k.toNat xs).flatten))
theorem yB{α:Type}(xs:List α)(k:Nat):(List.replicate k xs).flatten.length=k*xs.length:=by
 induction k with
 |zero=>simp
 |succ k ih=>rw[List.replicate_succ,List.flatten_cons,List.length_append,ih,Nat.succ_mul,Nat.add_comm]
theorem A8:OpR X (binaryOp .Mult) CP:=by
 intro pins s σ H x y v u Q I rx ry h
 obtain⟨l,k,xs,rfl,rfl,hH,h1,h2,hz,q⟩:=h
 cases rx
 obtain⟨t,rfl⟩:=ry
 obtain⟨z,its,n,r,hl,e⟩:=I.lstM hH
 have hlen:its.toArray.size*k.toNat≤sizeLine:=by rw[List.size_toArray,←hl];exact hz
 have hcap:¬its.toArray.size*k.toNat>(2^63-1)/8:=by
  have:(sizeLine:Nat)≤(2^63-1)/8:=by decide
  omega
 have hfit:¬(!Builtin.List.listFitsIndex k)=true:=by
  rw[fitsIndex_both h1 h2]
  exact Bool.false_ne_true
 have hlong:¬Builtin.List.listTooLong (its.toArray.size*k.toNat)=true:=by
  rw[qX hlen]
  exact Bool.false_ne_true
 have hnew:List.foldl (fun x1 x2=>x1++x2) #[] (List.replicate (if its.toArray.isEmpty=true then 0 else k.toNat) its.toArray)=(List.replicate k.toNat its).flatten.toArray:=by
  have f0:∀m:Nat,List.foldl (fun x1 x2=>x1++x2) #[] (List.replicate m its.toArray)=(List.replicate m its).flatten.toArray:=fun m=>by
   have:=oE its m []
   rw[List.nil_append] at this
   exact this
  rw[f0]
  cases its with
  |nil=>simp
  |cons a r'=>rw[if_neg (by simp)]
 refine wpAny_binaryOp_repeat_ref (T:="list") (U:="int") (by decide) ⟨_,e,rfl⟩ (fun s'=>typeIs_int s' k t) noFill_list_mul F.fills_int_mul F.slot_int_rmul repeat_list F.slot_int_index.lookup
  (call_meets F.slot_int_rmul (typeIs_int s k t) F.entry_int_rmul (F.args_int_rmul_2 _ _) (int___rmul___int_list k t l its.toArray n)
   ⟨e,rfl,⟨_,e,rfl⟩,call_meets F.slot_list_mul ⟨_,e,rfl⟩ F.entry_list_mul (F.args_list_mul_2 _ _) (AutoListH.list___mul___list_int_3 l its.toArray n k t hfit hcap hlong) ⟨e, ?_⟩⟩)
 rw[hnew]
 exact⟨.ref _,_,I.lnew (t':=s.toks) (r.rep k.toNat) (by rw[yB,Nat.mul_comm];exact hz),rfl,q _ I.fresh⟩
end
section
variable{prog:Program}{w:World}{A:Around}{E:Value→Shared→Prop}{s:Shared}
end
section
variable{X:Cx}
end
end L2
namespace Att
open PySem PySem.W PySem.Calls PyProof.Rows
theorem mK{P:Params}{h:Heap}:∀(ns:List Int) (vs:List Value),WellAll P h vs (ns.map WData.int)→IntsAre vs ns:=by
 intro ns
 induction ns with
 |nil=>
  intro vs w
  rw[List.map_nil] at w
  cases w
  exact .nil
 |cons n ns ih=>
  intro vs w
  rw[List.map_cons] at w
  cases w with
  |cons a b=>
   cases a
   exact .cons _ _ (ih _ b)
theorem vS{l:OpenLaw}{n:Nat}(hn:l.most=some n){P:Params}{h:Heap}{args:List WData}{vals:List Value}
 (hpre:l.row.toRowW.claim.pre args=true)(hwl:WellAll P h vals args):
 ∃a vs ns,vals=[Value.ref a]∧args=[WData.list (ns.map WData.int)]∧h.get? a=some {cls:= .type "list",data:= .seq vs.toArray}∧IntsAre vs ns∧ns.length≤n:=by
 have hsh:WShape.hasAll [] args [.list .int]=true:=(pre_splitW hpre).1
 have hc:l.pre.holds [] {args:=args}=true:=(pre_splitW hpre).2
 obtain⟨d,r,rfl,h1,h2⟩:=hasAllW_cons hsh
 obtain rfl:=hasAllW_nil h2
 obtain⟨xs,rfl,h3⟩:=hasW_list h1
 obtain⟨ns,rfl⟩:=items_int h3
 have hlen:ns.length≤n:=by
  unfold OpenLaw.pre at hc
  have h4:(WTm.not (.lt (.lit (.int (n:Int))) (.len (.arg 0)))).holds [] {args:=[.list (ns.map .int)]}=true:=by
   have h4:=(holds_andW hc).1
   rw[hn] at h4
   exact h4
  have h5:=condW_of h4 (w_not (w_lt w_lit (w_len_list (w_arg rfl))))
  rw[List.length_map] at h5
  refine Nat.le_of_not_lt fun q=> ?_
  have q':(n:Int)<((ns.length:Nat):Int):=by omega
  first
   |(rw[decide_eq_true q'] at h5;exact absurd h5 (by decide))
   |(simp at h5;omega)
 cases hwl with
 |cons w1 w2=>
  cases w2
  cases w1 with
  |list ho hall=>exact⟨_,_,ns,rfl,rfl,ho,mK ns _ hall,hlen⟩
theorem vT(l:OpenLaw)(args:List WData):l.row.toRowW.claim.post args (.bool true) args=true:=
 postW_of (r:=l.row.toRowW) (X:=(true==true))
  (show WShape.has [] (.bool true) .bool=true by first|rfl|decide|simp[WShape.has,WShape.arms,WShape.armsAll])
  (show (WTm.eq .res (.lit (.bool true))).value [] {args:=args,res:=some (.bool true),after:=args}=some (.bool (true==true)) from w_eq_bool (w_res rfl) w_lit) rfl
theorem attach_call{l:OpenLaw}{n:Nat}{q:Program}{loose:List Str}{XP:(Str→Option Value)→Heap→Prop}{YP:World→Heap→Prop}{d:DefRec}
 (hn:l.most=some n)(hdf:d.params.defaults=[])
 (call:∀(w:World) (s₀ s₁:Shared) (mg mb:Str→Option Value) (fa:Addr) (o:Obj) (pm cd doc:Value) (a:Addr) (vs:List Value) (ns:List Int),
  Ground q loose [] XP w s₀ mg mb s₁.heap→YP w s₁.heap→
  s₁.heap.get? fa=some o→o.data= .func (docDef d.name d.params d.body d.scope pm cd doc)→s₁.heap.CodeRec cd d.name→mg d.name=some (.ref fa)→
  s₁.heap.get? a=some {cls:= .type "list",data:= .seq vs.toArray}→IntsAre vs ns→ns.length≤n→s₁.gens= #[]→
  codeAny (model l.prog w) callerA (.call (.ref fa) ⟨[.ref a],[]⟩) (fun r s'=>r= .ok (.ret (.bool true))∧OldK s₁.heap s'.heap∧s'.os=s₁.os∧AllBare s'.gens) s₁):
 WalkO q loose XP YP l.row.toRowW d [] (fun f vs=>PySem.call f vs):=by
 intro w s₀ s₁ mg mb G Y fa o pm cd doc dV kV ho hd hcd hD hmg hg args vals as hpre hlay hrd hwl hlo
 obtain rfl:dV= .none:=Dflts.none hD hdf
 obtain rfl:kV= .none:=Dflts.noKw hD
 obtain⟨a,vs,ns,rfl,rfl,hobj,hints,hlen⟩:=vS hn hpre hwl
 refine enter_call (codeAny_mono (call w s₀ s₁ mg mb fa o pm cd doc a vs ns G Y ho (fd_plain hd) hcd hmg hobj hints hlen hg) fun r s' hq=> ?_)
 obtain⟨rfl,h2,h3,h4⟩:=hq
 exact⟨.inl ⟨.bool true, .bool true,[],rfl,fun _=>rfl, .bool true,vT l _,fun _=>⟨List.Pairwise.nil,fun _ hm=>(nomatch hm)⟩⟩,h2,h3,h4⟩
section
variable{prog:Program}{w:World}{A:Around}{E:Value→Shared→Prop}{s:Shared}{K:Frag}
end
end Att
namespace L2
open PySem PySem.Spec PyProof.Rows
theorem oF:∀{vs:List Value} {ns:List Int},IntsAre vs ns→Vals (ns.map V.int) vs
 |_,_, .nil=> .nil
 |_,_, .cons n t h=> .cons ⟨t,rfl⟩ (oF h)
def A9(H:Hp):Prop:=∀b,H b=none∨∃o xs,H b=some (.frz o (.lst xs))
theorem wE{P:Program}{w:World}{K:W.Frag}{mg mb:Str→Option Value}{CX:CXT}{k:Nat}{fa a:Addr}{fd:FuncData}{x:Str}{sp:Sp}{s₁:Shared}{vs:List Value}{ns:List Int}
 (KX:K.In s₁.heap)(hns:s₁.heap.Ns mainGlobals mg)(hb:s₁.heap.Ns builtinsNs mb)(hbb:∀x:Str,x≠"__name__"→mb x=bootBuiltins x)(hlim:s₁.heap.NoLimit)(hg:s₁.gens= #[])
 (ha:s₁.heap.get? a=some {cls:= .type "list",data:= .seq vs.toArray})(hi:IntsAre vs ns)(hl:ns.length≤sizeLine)(hr:Room k callerA)
 (F:∀base:Heap,K.In base→base.Ns mainGlobals mg→FnOk P w K mg base CX k fa fd [x] sp)(hbind:∀(s:Shared) (u:Value),BindsTo s fd ⟨[u],[]⟩ [(x,u)])
 (hsp:∀H:Hp,A9 H→SqL K H a (ns.map V.int)→sp [.ref a] H (fun v _=>v= .bl true) fun _ _ _=>False)
 (hCX:∀H e s',CX [] H s₁ (fun _ _ _=>False) e s'→False):
 codeAny (model P w) callerA (.call (.ref fa) ⟨[.ref a],[]⟩) (fun r s'=>r= .ok (.ret (.bool true))∧OldK s₁.heap s'.heap∧s'.os=s₁.os∧AllBare s'.gens) s₁:=by
 have rv:=oF hi
 have lenV:=hi.length
 have core:∀H:Hp,A9 H→SqL K H a (ns.map V.int)→HOk P w H s₁.heap→(∀b,H b≠none→b=a)→(H a≠none→K.lookup a=none)→
  codeAny (model P w) callerA (.call (.ref fa) ⟨[.ref a],[]⟩) (fun r s'=>r= .ok (.ret (.bool true))∧OldK s₁.heap s'.heap∧s'.os=s₁.os∧AllBare s'.gens) s₁:=by
  intro H hO hS hok hA hK
  have base_of:∀{b:Addr} {o:Obj},s₁.heap.get? b=some o→H b=none→(oX s₁.heap H).get? b=some o:=fun e n=>wg e n
  have noA:∀{b:Addr} {o:Obj} {es:Array DictEntry} {ep:Nat},s₁.heap.get? b=some o→o.data= .dict es ep→H b=none:=fun {b o es ep} e d=>by
   cases q:H b with
   |none=>rfl
   |some u=>
    have e':b=a:=hA b (by rw[q];simp)
    subst e'
    rw[ha] at e;cases e
    have d':Data.seq vs.toArray _=Data.dict es ep:=d
    cases d'
  have nsK:∀{b:Addr} {m:Str→Option Value},s₁.heap.Ns b m→(oX s₁.heap H).Ns b m:=fun {b m} ⟨o,es,ep,e,d,r⟩=>⟨o,es,ep,base_of e (noA e d),d,r⟩
  have hKb:K.In (oX s₁.heap H):=fun b o e=>base_of (KX b o e) (by
   cases q:H b with
   |none=>rfl
   |some u=>
    have e':b=a:=hA b (by rw[q];simp)
    subst e'
    rw[hK (by rw[q];simp)] at e;cases e)
  have hM:Mod K mg (oX s₁.heap H):=⟨hKb,nsK hns,⟨mb,nsK hb,hbb⟩,let⟨mc,h1,h2⟩:=hlim;⟨mc,nsK h1,h2⟩⟩
  have e0:Env0 P w K mg (oX s₁.heap H) callerA [] s₁ H:=⟨rfl,hM,fun b o e=>yj e,Nat.le_of_eq (vJ _ _),trivial,fun b hb=>absurd (show b∈([]:List Addr) from hb) (by simp),hok, .of_eq hg⟩
  refine codeAny_mono ((F _ hKb (nsK hns)).run callerA [] s₁ H ⟨[.ref a],[]⟩ [.ref a] [.ref a] _ _ hr e0 (hbind s₁ (.ref a)) (.cons rfl .nil) (hsp H hO hS)) fun r s' h=> ?_
  cases r with
  |error e=>exact(hCX H e s' h).elim
  |ok fl=>
   cases fl with
   |next=>exact False.elim h
   |brk=>exact False.elim h
   |cont=>exact False.elim h
   |ret u=>
    obtain⟨v,H',os,bare,un,hok',r',q⟩:=h
    have q':v= .bl true:=q
    subst q'
    obtain rfl:u=Value.bool true:=r'
    refine⟨rfl,OldK.of_keep fun b o e=> ?_,os,bare⟩
    cases q:H b with
    |none=>exact un.keep b o e q (by intro z;exact absurd (show b∈([]:List Addr) from z) (by simp)) (by simp)
    |some u=>
     rcases hO b with z|⟨ob,xs,z⟩
     · rw[q] at z;cases z
     · have z2:=un.frzs b ob _ z
       obtain⟨e1,_⟩:=hok b _ z
       obtain⟨e2,_⟩:=hok' b _ z2
       rw[e] at e1;cases e1
       exact e2
 cases hk:K.lookup a with
 |some o=>
  have e:=KX a o hk
  rw[ha] at e
  cases e
  refine core (fun _=>none) (fun _=> .inl rfl) (.inr ⟨_,vs.toArray,_,hk,rfl,rfl,rfl,by rw[List.size_toArray,lenV];exact hl,by simpa using rv⟩) (fun b u z=>by have z':(none:Option HO)=some u:=z;cases z') (fun b z=>absurd rfl z) fun z=>absurd rfl z
 |none=>
  refine core (fun b=>if b=a then some (.frz {cls:= .type "list",data:= .seq vs.toArray} (.lst (ns.map V.int))) else none) (fun b=> ?_) (.inl (.inr ⟨{cls:= .type "list",data:= .seq vs.toArray},if_pos rfl⟩)) (fun b u z=> ?_) (fun b z=> ?_) fun _=>hk
  · by_cases hb:b=a
    · exact .inr ⟨_,_,if_pos hb⟩
    · exact .inl (if_neg hb)
  · by_cases hb:b=a
    · have z':=(if_pos hb).symm.trans z
      cases z'
      subst hb
      exact⟨ha,by rw[List.length_map];exact hl,vs,_,rv,ha⟩
    · have z':=(if_neg hb).symm.trans z
      cases z'
  · by_cases hb:b=a
    · exact hb
    · exact absurd (if_neg hb) z
end L2
namespace L2
open PySem PySem.Spec PyProof.Rows
abbrev KOf{K:W.Frag}{h:Heap}(_:K.In h):W.Frag:=K
theorem walk_of{l:W.OpenLaw}{n k:Nat}{q:Program}{loose:List Str}{XP:(Str→Option Value)→Heap→Prop}{YP:World→Heap→Prop}{d:DefRec}{K:Params→W.Frag}{CX:World→CXT}{sp:World→Sp}{x:Str}
 (hn:l.most=some n)(hn2:n≤sizeLine)(hdf:d.params.defaults=[])(hr:Room k callerA)
 (hY:∀(w:World) (h:Heap),YP w h→(K w.params).In h)
 (F:∀(w:World) (mg:Str→Option Value) (fa:Addr) (h:Heap),(K w.params).In h→h.Ns mainGlobals mg→mg d.name=some (.ref fa)→
  ∃fd:FuncData,(∀(s:Shared) (u:Value),BindsTo s fd ⟨[u],[]⟩ [(x,u)])∧
   ∀base:Heap,(K w.params).In base→base.Ns mainGlobals mg→FnOk l.prog w (K w.params) mg base (CX w) k fa fd [x] (sp w))
 (hsp:∀(w:World) (H:Hp) (a:Addr) (ns:List Int),ns.length≤n→A9 H→SqL (K w.params) H a (ns.map V.int)→sp w [.ref a] H (fun v _=>v= .bl true) fun _ _ _=>False)
 (hCX:∀(w:World) (H:Hp) (s:Shared) (e:Value) (s':Shared),CX w [] H s (fun _ _ _=>False) e s'→False):
 W.WalkO q loose XP YP l.row.toRowW d [] (fun f vs=>PySem.call f vs):=by
 refine Att.attach_call hn hdf fun w s₀ s₁ mg mb fa o pm cd doc a vs ns G Y ho hd hcd hmg hobj hints hlen hg=> ?_
 have KX:=hY w _ Y
 obtain⟨fd,hb,hF⟩:=F w mg fa _ KX G.T.g hmg
 exact wE KX G.T.g G.T.b G.T.builtins G.T.nolimit hg hobj hints (Nat.le_trans hlen hn2) hr hF hb (fun H hO hS=>hsp w H a ns hlen hO hS) fun H e s'=>hCX w H s₁ e s'
end L2
namespace L2
open PySem PySem.Spec PyProof.Rows
def pk(s:Stmt)(j:Nat):Stmt:=match s with
 | .ClassDef _ _ _ body _ _ _ _ _ _ _=>body.getD j (.Pass ⟨0,0,0,0⟩)
 |_=> .Pass ⟨0,0,0,0⟩
def aI(s:Stmt):Arguments:=match s with
 | .FunctionDef _ a _ _ _ _ _ _ _ _=>a
 |_=>{posonlyargs:=[],args:=[],vararg:=none,kwonlyargs:=[],kw_defaults:=[],kwarg:=none,defaults:=[]}
def aG(s:Stmt):List Stmt:=match s with
 | .FunctionDef _ _ b _ _ _ _ _ _ _=>b
 |_=>[]
def aq(s:Stmt):Scope:=match s with
 | .FunctionDef _ _ _ _ _ _ sc _ _ _=>sc
 |_=>{kind:= .function,names:=[],isGenerator:=false,isCoroutine:=false}
abbrev CX0:CXT:=fun _ _ _ _ _ _=>False
abbrev E0:XK:=fun _ _ _=>False
theorem z3{X:Cx}:mZ CX0 X E0:=fun _ _ _ _ _ _ _ h=>h.elim
structure Fun(K:W.Frag)(x qual:Str)(st:Stmt)(f:Addr)(fd:FuncData):Prop where
 ex:∃(oc:Value) (od:Option Addr) (kV doc pm:Value) (an:Option Addr) (cdv ct:Value) (osl:Array (Option Value)),
  fd=W.fnOf x qual (aI st) (aG st) (aq st) .none kV doc pm an cdv ct∧K.lookup f=some ⟨oc,od, .func fd,osl⟩∧W.codeIn K cdv qual=true
 kp:W.keepIn K (.ref f)=true
section
variable{P:Program}{w:World}{K:W.Frag}{mg:Str→Option Value}{base:Heap}
theorem Fun.ok{x qual:Str}{st:Stmt}{f:Addr}{fd:FuncData}{N ps:List Str}{k:Nat}{sp:Sp}(F:Fun K x qual st f fd)(S:FnScope N ps (aq st))(len:∀vs H Q E,sp vs H Q E→vs.length=ps.length)
 (hbody:∀(cdv:Value) (A:Around) (outer:List Env) (s:Shared) (H:Hp) (vs:List V) (Q:VK) (E:XK),Room k (A.deeper (envOfC qual (aq st) s.heap.objs.size f cdv))→sp vs H Q E→
  ∃t,PSs (vP CX0 P w K mg base N qual (aq st) f cdv A outer s H E).nox (aG st) t∧t {nx:=fun _ H'=>Q .non H',rt:=Q} (start N vs) H):FnOk P w K mg base CX0 (k+1) f fd ps sp:=by
 obtain⟨oc,od,kV,doc,pm,an,cdv,ct,osl,rfl,lk,hcd⟩:=F.ex
 refine CI lk hcd S len fun A outer s H vs Q E hr hsp=> ?_
 obtain⟨t,h,q⟩:=hbody cdv A outer s H vs Q E hr hsp
 exact⟨t,h.nox,q⟩
theorem Fun.binds{x qual:Str}{st:Stmt}{f:Addr}{fd:FuncData}{ps:List Str}(F:Fun K x qual st f fd)
 (h:∀(kV doc pm:Value) (an:Option Addr) (cdv ct:Value) (us:List Value),us.length=ps.length→bindArgs (W.fnOf x qual (aI st) (aG st) (aq st) .none kV doc pm an cdv ct) ⟨us,[]⟩=pure (ps.zip us)):Binds K fd ps []:=by
 obtain⟨oc,od,kV,doc,pm,an,cdv,ct,osl,rfl,lk,hcd⟩:=F.ex
 exact .all (h kV doc pm an cdv ct)
theorem aT{x qual:Str}{st:Stmt}{f:Addr}{oc:Value}{od an:Option Addr}{osl:Array (Option Value)}{kV doc pm cdv ct:Value}(l:K.lookup f=some ⟨oc,od, .func (W.fnOf x qual (aI st) (aG st) (aq st) .none kV doc pm an cdv ct),osl⟩)
 (c:W.codeIn K cdv qual=true)(k:W.keepIn K (.ref f)=true):Fun K x qual st f (W.fnOf x qual (aI st) (aG st) (aq st) .none kV doc pm an cdv ct):=⟨⟨oc,od,kV,doc,pm,an,cdv,ct,osl,rfl,l,c⟩,k⟩
end
section
variable{X:Cx}
theorem pv(i:Nat){x:Str}{pos:Pos}(hN:X.N[i]? =some x:=by rfl)(hv:Vis X.env.scope x:=by first|exact Or.inl rfl|exact Or.inr (Or.inl rfl)|exact Or.inr (Or.inr rfl))(hd:(x==("__debug__":Str))=false:=by decide)
 (hcd:(x==("__classdict__":Str))=false:=by decide):PE X (.Name x pos) (oY i):=AM hN hv hd hcd
end
def Same(H H':Hp):Prop:=∀b o,H b=some o→H' b=some o
theorem Same.refl(H:Hp):Same H H:=fun _ _ h=>h
theorem Same.trans{H H1 H2:Hp}(a:Same H H1)(b:Same H1 H2):Same H H2:=fun c o h=>b c o (a c o h)
end L2
set_option maxHeartbeats 4000000
namespace Fr
def G(a b:Int):Int:=((Int.gcd a b:Nat):Int)
def cF(a b:Int):Int:=if b<0 then-G a b else G a b
def mk(a b:Int):Int×Int:=(a.fdiv (cF a b),b.fdiv (cF a b))
def low(a b:Int):Int×Int:=(a.fdiv (G a b),b.fdiv (G a b))
theorem low_mk{a b:Int}(h:0<b):mk a b=low a b:=by
 have e:cF a b=G a b:=by unfold cF;rw[if_neg (by omega)]
 unfold mk low;rw[e]
theorem G_pos{a b:Int}(h:b≠0):0<G a b:=by
 unfold G
 have:0<Int.gcd a b:=Int.gcd_pos_of_ne_zero_right a h
 omega
theorem G_step{a b:Int}(h:0<b):G b (a%b)=G a b:=by
 unfold G
 have e:Int.gcd b (a%b)=Int.gcd a b:=by
  have ea:a%b+b*(a/b)=a:=Int.emod_add_mul_ediv a b
  have:=Int.gcd_add_mul_left_left b (a%b) (a/b)
  rw[ea] at this
  rw[this,Int.gcd_comm]
 rw[e]
theorem G_zero{a:Int}(h:0≤a):G a 0=a:=by
 unfold G
 rw[Int.gcd_zero_right]
 omega
theorem G_le{a b:Int}(h:b≠0):(G a b).natAbs≤b.natAbs:=by
 unfold G
 have:Int.gcd a b ∣ b.natAbs:=by
  have:=Int.gcd_dvd_right a b
  exact Int.natAbs_dvd_natAbs.mpr this
 have h2:=Nat.le_of_dvd (by omega) this
 simpa using h2
theorem yC{a b:Int}(h:b≠0):cF a b≠0:=by
 have:=G_pos (a:=a) h
 unfold cF;split<;>omega
theorem mk_facts{a b:Int}(h:b≠0):∃k:Int,k≠0∧a=k*(mk a b).1∧b=k*(mk a b).2∧0<(mk a b).2∧Int.gcd (mk a b).1 (mk a b).2=1:=by
 have hg:=G_pos (a:=a) h
 have hk:=yC (a:=a) h
 have d1:cF a b ∣ a:=by
  unfold cF;split
  · exact Int.neg_dvd.mpr (Int.gcd_dvd_left a b)
  · exact Int.gcd_dvd_left a b
 have d2:cF a b ∣ b:=by
  unfold cF;split
  · exact Int.neg_dvd.mpr (Int.gcd_dvd_right a b)
  · exact Int.gcd_dvd_right a b
 have hn:(cF a b).natAbs=Int.gcd a b:=by
  unfold cF G;split<;>simp
 obtain⟨p,hp⟩:=d1
 obtain⟨q,hq⟩:=d2
 have e1:(mk a b).1=p:=by
  show a.fdiv (cF a b)=p
  generalize cF a b=k at*
  rw[hp];exact Int.mul_fdiv_cancel_left p hk
 have e2:(mk a b).2=q:=by
  show b.fdiv (cF a b)=q
  generalize cF a b=k at*
  rw[hq];exact Int.mul_fdiv_cancel_left q hk
 refine⟨cF a b,hk,by rw[e1];exact hp,by rw[e2];exact hq, ?_, ?_⟩
 · rw[e2]
   unfold cF at hq
   split at hq
   · rename_i hb
     rcases Int.lt_trichotomy q 0 with z|z|z
     · exfalso
       have:0< -G a b*q:=Int.mul_pos_of_neg_of_neg (by omega) z
       omega
     · subst z;omega
     · exact z
   · rename_i hb
     rcases Int.lt_trichotomy q 0 with z|z|z
     · exfalso
       have:G a b*q<0:=Int.mul_neg_of_pos_of_neg hg z
       omega
     · subst z;omega
     · exact z
 · rw[e1,e2]
   have hg2:0<Int.gcd a b:=Int.gcd_pos_of_ne_zero_right a h
   have key:Int.gcd a b=Int.gcd a b*Int.gcd p q:=by
    have e:Int.gcd (cF a b*p) (cF a b*q)=(cF a b).natAbs*Int.gcd p q:=Int.gcd_mul_left (cF a b) p q
    rw[hn] at e
    rw[←e,←hp,←hq]
   have:=Nat.eq_of_mul_eq_mul_left hg2 (show Int.gcd a b*Int.gcd p q=Int.gcd a b*1 by omega)
   exact this
end Fr
namespace L2
open PySem PySem.Spec PyProof.Rows
abbrev Ba(i:Int):Nat:=Builtin.Int.intBits i
def CDivB(_ j:Int):Prop:=j≠0∧Ba j≤8000
theorem CDivB.ok{i j:Int}(h:CDivB i j):Builtin.divisionGoesByPylong i j=false:=by
 refine PyProof.noPylong_of_log2 ?_
 have h2:Ba j≤8000:=h.2
 unfold Ba Builtin.Int.intBits at h2
 have h1:¬j=0:=h.1
 split at h2
 · rename_i z;exact absurd (by simpa using z) h1
 · omega
section
variable{X:Cx}{a b c:Expr}{ta tb tc:TE}{pos:Pos}
theorem yD:OpR X (binaryOp .Mult) (rI IntMulOk fun i j=> .int (i*j)):=opI fun _ _ _ _ _ _ _ hc q=>mul_int q hc
theorem d5:OpR X (binaryOp .FloorDiv) (rI CDivB fun i j=> .int (i.fdiv j)):=opI fun _ _ _ _ _ _ _ hc q=>floordiv_int hc.1 q (.inl hc.ok)
def Bb(xs ys:List V):Bool:=(List.range (min xs.length ys.length)).all (fun j=>eqV (xs.getD j .non) (ys.getD j .non))&&xs.length==ys.length
def CQ(K:W.Frag):R2:=fun x y H Q=>∃a b xs ys,x= .ref a∧y= .ref b∧SqT K H a xs∧SqT K H b ys∧xs.all uB=true∧ys.all uB=true∧Q (.bl (Bb xs ys)) H
theorem qY{xs:List V}{us:List Value}(r:Vals xs us){j:Nat}(h:j<us.length):RelV (xs.getD j .non) us[j]:=by
 have hl:=r.length
 have hx:j<xs.length:=by omega
 obtain⟨u,e,q⟩:=r.get (i:=j) (x:=xs[j]) (by rw[List.getElem?_eq_getElem hx])
 rw[List.getElem?_eq_getElem h] at e
 cases e
 rw[List.getD_eq_getElem?_getD,List.getElem?_eq_getElem hx]
 exact q
theorem qZ{p:V→Bool}{xs:List V}(h:xs.all p=true){j:Nat}(hj:j<xs.length):p (xs.getD j .non)=true:=by
 rw[List.getD_eq_getElem?_getD,List.getElem?_eq_getElem hj]
 exact List.all_eq_true.mp h _ (List.getElem_mem hj)
theorem Bc(hu:X.A.units<cLine):OpR X (compareOp .Eq) (CQ X.K):=by
 intro pins s σ H x y v u Q I rx ry h
 obtain⟨p,q,xs,ys,rfl,rfl,h1,h2,f1,f2,k⟩:=h
 cases rx
 cases ry
 obtain⟨its,r,pl,hz⟩:=I.tuple h1
 obtain⟨its2,r2,pl2,hz2⟩:=I.tuple h2
 have l1:=r.length
 have l2:=r2.length
 refine SeqAt.eq_tupleAt (e:=fun j=>eqV (xs.getD j .non) (ys.getD j .non)) pl pl2 hu (fun j g1 g2=> ?_) ⟨.bl _,H,I,rfl, ?_⟩
 · have g1':j<its.length:=by simpa using g1
   have g2':j<its2.length:=by simpa using g2
   have e:=A5 (A:=X.A.in1) (s:=s) (qY r g1') (qY r2 g2') (qZ f1 (by omega)) (qZ f2 (by omega))
   simpa using e
 · have e:((List.range (min its.toArray.size its2.toArray.size)).all (fun j=>eqV (xs.getD j .non) (ys.getD j .non))&&its.toArray.size==its2.toArray.size)=Bb xs ys:=by
    unfold Bb
    rw[List.size_toArray,List.size_toArray,l1,l2]
   rw[e]
   exact k
theorem eZ:CallR X (.builtin "isinstance") (fun xs H Q=>∃x T t k,xs=[x, .ty T]∧TyOf X.K H x t∧W.kitOne X.K t (.type T)=some k∧Q (.bl k) H):=by
 intro pins s σ H xs us Q I r h
 obtain⟨x,T,t,k,rfl,ty,e,q⟩:=h
 obtain⟨u,v,rfl,rx,rv⟩:=Vals.two r
 cases rv
 exact ou I rx ty e fun tk=>⟨.bl k,H,I.tok _,rfl,q⟩
end
section
variable{X:Cx}{a b c:Expr}{ta tb tc:TE}{pos:Pos}
theorem Bd:OpR X (compareOp .Eq) (rI0 fun i j=> .bl (decide (i=j))):=wt fun _ _ _ _ _ _ _ q=>eq_int (by rw[Bool.beq_eq_decide_eq];exact q)
theorem Be:OpR X (compareOp .NotEq) (rI0 fun i j=> .bl (!decide (i=j))):=wt fun _ _ _ _ _ _ _ q=>ne_int (by rw[bne,Bool.beq_eq_decide_eq];exact q)
def z4:R2:=fun x y H Q=>∃i j,x= .str i∧y= .str j∧i.length+j.length≤sizeLine∧Q (.str (i++j)) H
def z5:R2:=fun x y H Q=>rI0 (fun i j=> .int (i+j)) x y H Q∨z4 x y H Q∨CO x y H Q
theorem yE:OpR X (binaryOp .Add) z5:=AU.or ((show OpR X (binaryOp .Add) z4 from ti).or A7)
theorem pA:CallR X (.builtin "len") (fun xs H Q=>(∃p ys,xs=[.ref p]∧(SqL X.K H p ys∨SqT X.K H p ys)∧Q (.int ys.length) H)∨∃z,xs=[.str z]∧z.length≤sizeLine∧Q (.int z.length) H):=ph.or pi
end
theorem uE:bootBuiltins "abs"=some (.builtin "abs"):=by decide+kernel
theorem kW:bootBuiltins "len"=some (.builtin "len"):=by decide+kernel
theorem bF:bootBuiltins "isinstance"=some (.builtin "isinstance"):=by decide+kernel
theorem z6:bootBuiltins "int"=some (.type "int"):=by decide+kernel
theorem Bf:bootBuiltins "bool"=some (.type "bool"):=by decide+kernel
theorem pB:bootBuiltins "tuple"=some (.type "tuple"):=by decide+kernel
theorem lP:bootBuiltins "list"=some (.type "list"):=by decide+kernel
theorem z7:bootBuiltins "str"=some (.type "str"):=by decide+kernel
structure Got(P:Program)(w:World)(K:W.Frag)(mg:Str→Option Value)(base:Heap)(k:Nat)(x:Str)(ps:List Str)(sp:Sp):Prop where
 ex:∃f fd,FnOk P w K mg base CX0 k f fd ps sp∧Binds K fd ps []∧W.keepIn K (.ref f)=true∧mg x=some (.ref f)
section
variable{X:Cx}{k n:Nat}{x:Str}{ps:List Str}{sp:Sp}{p pos:Pos}{e:Expr}{es:List Expr}{t:TA}
theorem aJ(g:Got X.prog X.w X.K X.mg X.base k x ps sp)(hr:Room n X.A)(hk:k≤n)(hg:Gl X x)(ha:PA X (e::es) t)(hdb:(x==("__debug__":Str))=false:=by decide)
 (he:starEach (e::es) X.env=(false,eval e X.env)::starEach es X.env:=by rfl)(hpl:(backTo pos (starEach es X.env)).any (·.1)=false:=by rfl):
 PE X (.Call (.Name x p) (e::es) [] pos) (oy sp [] E0 t):=by
 obtain⟨f,fd,F,hb,hkp,hm⟩:=g.ex
 exact yt F (hr.mono hk) hg hm hkp hb .nil z3 ha hdb he hpl
end
mutual
inductive RdD(K:W.Frag)(H:Hp):V→PyData→Prop where
 |non:RdD K H .non .none
 |bl (b:Bool):RdD K H (.bl b) (.bool b)
 |int (i:Int):RdD K H (.int i) (.int i)
 |str (x:Str):RdD K H (.str x) (.str x)
 |lst {a:Addr} {xs:List V} {ds:List PyData}:SqL K H a xs→RdDs K H xs ds→RdD K H (.ref a) (.list ds)
 |tup {a:Addr} {xs:List V} {ds:List PyData}:SqT K H a xs→RdDs K H xs ds→RdD K H (.ref a) (.tuple ds)
inductive RdDs(K:W.Frag)(H:Hp):List V→List PyData→Prop where
 |nil:RdDs K H [] []
 |cons {x:V} {xs:List V} {d:PyData} {ds:List PyData}:RdD K H x d→RdDs K H xs ds→RdDs K H (x::xs) (d::ds)
end
section
variable{X:Cx}{pins:List (Addr×Obj)}{σ:St}{H:Hp}{s:Shared}{h':Heap}
theorem RdD.reads(I:Inv X pins σ H s){x:V}{d:PyData}{u:Value}(q:RdD X.K H x d):RelV x u→∃as,Reads s.heap u d as:=
 RdD.rec (motive_1:=fun x d _=>∀u:Value,RelV x u→∃as,Reads s.heap u d as) (motive_2:=fun xs ds _=>∀us:List Value,Vals xs us→∃as,ReadsAll s.heap us ds as)
  (fun u r=>by cases r;exact⟨_, .none⟩) (fun b u r=>by cases r;exact⟨_, .bool b⟩) (fun i u r=>by obtain⟨t,rfl⟩:=r;exact⟨_, .int i t⟩) (fun x u r=>by obtain⟨t,rfl⟩:=r;exact⟨_, .str x t⟩)
  (fun h _ ih u r=>by
   cases r
   obtain⟨its,rv,⟨o,n,e,c,_,d⟩,_⟩:=I.list h
   obtain⟨as,ra⟩:=ih its rv
   exact⟨_, .list e c d (by simpa using ra)⟩)
  (fun h _ ih u r=>by
   cases r
   obtain⟨its,rv,⟨o,e,c,n,d⟩,_⟩:=I.tuple h
   obtain⟨as,ra⟩:=ih its rv
   exact⟨_, .tuple e c d (by simpa using ra)⟩)
  (fun us r=>by cases r;exact⟨_, .nil⟩)
  (fun _ _ h t us r=>by
   cases r with
   |cons r rs=>
    obtain⟨as,ra⟩:=h _ r
    obtain⟨bs,rb⟩:=t _ rs
    exact⟨_, .cons ra rb⟩) q u
def yF(K:W.Frag)(neg:Bool):R2:=fun x y H Q=>∃d e,RdD K H x d∧RdD K H y e∧SeqAt.shaped d=true∧SeqAt.shaped e=true∧Q (.bl (if neg then !(PyData.eqv d e) else PyData.eqv d e)) H
theorem Bg(hu:X.A.units+64<cLine):OpR X (compareOp .Eq) (yF X.K false):=by
 intro pins s σ H x y v u Q I rx ry h
 obtain⟨d,e,h1,h2,s1,s2,q⟩:=h
 obtain⟨as,ra⟩:=h1.reads I rx
 obtain⟨bs,rb⟩:=h2.reads I ry
 exact eq_dataH ra rb s1 s2 hu ⟨.bl _,H,I,rfl,q⟩
theorem Bh(hu:X.A.units+64<cLine):OpR X (compareOp .NotEq) (yF X.K true):=by
 intro pins s σ H x y v u Q I rx ry h
 obtain⟨d,e,h1,h2,s1,s2,q⟩:=h
 obtain⟨as,ra⟩:=h1.reads I rx
 obtain⟨bs,rb⟩:=h2.reads I ry
 exact ne_dataH ra rb s1 s2 hu ⟨.bl _,H,I,rfl,q⟩
theorem Inv.turnedNew{t':Nat}{ch:List Addr}{T:Addr}{o:HO}(I:Inv X pins σ H s)(k:∀b o,b∉ch→s.heap.get? b=some o→h'.get? b=some o)(hf:∀b∈ch,kr X pins H b)
 (hT:s.heap.objs.size≤T)(new:ObjOk X.prog X.w (upd H T o) h' T o):Inv X pins σ (upd H T o) {s with heap:=h',toks:=t'}:=by
 have hn:H T=none:=I.hok.fresh hT
 have nch:∀b u,H b=some u→b∉ch:=fun b u e z=>by rw[(hf b z).1] at e;cases e
 refine I.step (g':=s.gens) (d':=s.drawn) (ch:=ch) (fun b hb=>⟨(hf b hb).2.2.2.1,(hf b hb).2.1,(hf b hb).2.2.2.2.1,(hf b hb).2.2.2.2.2⟩)
  (fun b o _ _ hc e _=>k b o hc e) (fun b o _ _ hc e _=>⟨o.slots,k b o hc e⟩)
  (fun b o _ e n=>by rw[aR (Nat.ne_of_lt (Nat.lt_of_lt_of_le (Heap.lt_size e) hT))];exact n)
  (fun b o hc e=>⟨o,k b o hc e⟩)
  (fun b xs e=>by rw[aR (aM e hn)];exact e) (fun b o u e=>by rw[aR (aM e hn)];exact e)
  (fun b ps e=>⟨#[],by rw[aR (aM e hn),e];simp⟩) (fun m hm=> ?_) (fun b u e=> ?_) I.bare
 · obtain⟨ob,es,ep,ho,r⟩:=hm
   exact⟨ob,es,ep,k _ ob (fun z=>(hf _ z).2.1 rfl) ho,r⟩
 · by_cases hb:b=T
   · subst hb;rw[aX] at e;cases e;exact new
   · rw[aR hb] at e
     refine(I.hok b u e).stay (fun c v hc q=>k c v ?_ q) (fun c q=>by rw[aR (aM q hn)];exact q) fun c xs q=>by rw[aR (aM q hn)];exact q
     rcases hc with z|z
     · rw[z];exact nch b u e
     · exact nch c _ z
theorem Inv.turnedL{t':Nat}{ch:List Addr}(I:Inv X pins σ H s)(k:∀b o,b∉ch→s.heap.get? b=some o→h'.get? b=some o)(hf:∀b∈ch,kr X pins H b):
 Inv X pins σ H {s with heap:=h',toks:=t'}:=by
 have nch:∀b u,H b=some u→b∉ch:=fun b u e z=>by rw[(hf b z).1] at e;cases e
 refine I.step (g':=s.gens) (d':=s.drawn) (ch:=ch) (fun b hb=>⟨(hf b hb).2.2.2.1,(hf b hb).2.1,(hf b hb).2.2.2.2.1,(hf b hb).2.2.2.2.2⟩)
  (fun b o _ _ hc e _=>k b o hc e) (fun b o _ _ hc e _=>⟨o.slots,k b o hc e⟩) (fun _ _ _ _ n=>n)
  (fun b o hc e=>⟨o,k b o hc e⟩) (fun _ _ e=>e) (fun _ _ _ e=>e) (fun b ps e=>⟨#[],by rw[e];simp⟩) (fun m hm=> ?_) (fun b u e=> ?_) I.bare
 · obtain⟨ob,es,ep,ho,r⟩:=hm
   exact⟨ob,es,ep,k _ ob (fun z=>(hf _ z).2.1 rfl) ho,r⟩
 · refine(I.hok b u e).stay (fun c v hc q=>k c v ?_ q) (fun _ q=>q) fun _ _ q=>q
   rcases hc with z|z
   · rw[z];exact nch b u e
   · exact nch c _ z
def Itz(K:W.Frag)(l1 l2:Addr):It:=
 ⟨fun i H=>∃xs ys,SqL K H l1 xs∧SqL K H l2 ys∧i<xs.length∧i<ys.length,
  fun i H x H'=>∃T a b,H T=none∧x= .ref T∧H'=upd H T (.tup [a,b])∧(∀xs,SqL K H l1 xs→xs[i]? =some a)∧(∀ys,SqL K H l2 ys→ys[i]? =some b),
  fun i H=>∃xs ys,SqL K H l1 xs∧SqL K H l2 ys∧(xs.length≤i∨ys.length≤i)⟩
def z9(z TI TO i1 i2 l1 l2:Addr)(i:Nat)(h:Heap):Prop:=IsZip h z TI TO .none∧IsPair h TI (.ref i1) (.ref i2)∧(∃a b,IsPair h TO a b)∧h.IsListIter i1 l1 i∧h.IsListIter i2 l2 i
theorem wF{P:Program}{w:World}{K:W.Frag}{elts:List Expr}{kk:Nat}{tpos:Pos}(z TI TO i1 i2 l1 l2:Addr)(D:ZipApart z TI TO i1 i2 l1 l2):
 Turn P w K (.Tuple elts kk tpos) (Itz K l1 l2) [z,TI,TO,i1,i2] z (z9 z TI TO i1 i2 l1 l2) where
 mem:=by simp
 obj:=fun i h st b hb=>by
  obtain⟨hz,hTI,⟨a,c,hTO⟩,⟨o1,e1,_,d1⟩,⟨o2,e2,_,d2⟩⟩:=st
  simp only[List.mem_cons,List.not_mem_nil,or_false] at hb
  rcases hb with rfl|rfl|rfl|rfl|rfl
  · exact⟨_,hz,fun v q=>by cases (show Data.fields _=Data.cell v from q)⟩
  · exact⟨_,hTI,fun v q=>by cases (show Data.seq _ _=Data.cell v from q)⟩
  · exact⟨_,hTO,fun v q=>by cases (show Data.seq _ _=Data.cell v from q)⟩
  · exact⟨_,e1,fun v q=>by rw[d1] at q;cases q⟩
  · exact⟨_,e2,fun v q=>by rw[d2] at q;cases q⟩
 keep:=fun i h h' st k=>by
  obtain⟨hz,hTI,⟨a,c,hTO⟩,h1,h2⟩:=st
  exact⟨k z (by simp) _ hz,k TI (by simp) _ hTI,⟨a,c,k TO (by simp) _ hTO⟩,h1.at fun o e=>k i1 (by simp) o e,h2.at fun o e=>k i2 (by simp) o e⟩
 item:=by
  intro X hP hw hK hc i pins s σ H E I hf st hg
  subst hP hw hK
  obtain⟨xs,ys,q1,q2,g1,g2⟩:=hg
  obtain⟨its1,r1,p1,z1⟩:=I.list q1
  obtain⟨its2,r2,p2,z2⟩:=I.list q2
  obtain⟨u1,e1,ru1⟩:=r1.get (List.getElem?_eq_getElem g1)
  obtain⟨u2,e2,ru2⟩:=r2.get (List.getElem?_eq_getElem g2)
  obtain⟨hz,hTI,⟨a,c,hTO⟩,h1,h2⟩:=st
  refine wpAny_pyNext_zip_item D hz hTI hTO h1 h2 p1.isList p2.isList (x:=u1) (y:=u2) (by simpa using e1) (by simpa using e2) fun h1' a1 a2 a3 a4 a5 a6 hk=>⟨_,rfl, ?_⟩
  refine wpAny_letOwnedTupleGo_zip a1 fun h2' hz' hs'=> ?_
  have lt:∀{c o},s.heap.get? c=some o→s.heap.objs.size≠c:=fun e=>Nat.ne_of_gt (Heap.lt_size e)
  have Tz:s.heap.objs.size≠z:=lt hz
  have kz:∀b o,b≠z→h1'.get? b=some o→h2'.get? b=some o:=fun b o hb e=>hs'.extBut _ _ hb e
  have I':Inv X pins σ (upd H s.heap.objs.size (.tup [xs[i],ys[i]])) {s with heap:=h2'}:=by
   refine I.turnedNew (t':=s.toks) (ch:=[z,TO,i1,i2]) (fun b o hb e=> ?_) (fun b hb=>hf b (by
    simp only[List.mem_cons,List.not_mem_nil,or_false] at hb ⊢
    rcases hb with rfl|rfl|rfl|rfl<;>simp)) (Nat.le_refl _) ?_
   · simp only[List.mem_cons,List.not_mem_nil,or_false,not_or] at hb
     exact kz b o hb.1 (hk b o hb.1 hb.2.1 hb.2.2.1 hb.2.2.2 e)
   · exact⟨(by show 2≤sizeLine;decide),[u1,u2], .cons ru1 (.cons ru2 .nil),_,kz _ _ Tz a5,rfl,_,rfl⟩
  refine⟨.ref s.heap.objs.size,_,I',rfl,⟨s.heap.objs.size,xs[i],ys[i],I.hok.fresh (Nat.le_refl _),rfl,rfl,fun xs' q'=> ?_,fun ys' q'=> ?_⟩,⟨hz', ?_,⟨_,_,kz _ _ D.TOz a2⟩, ?_, ?_⟩,fun b hb=> ?_⟩
  · rw[I.list_inj q' q1];exact List.getElem?_eq_getElem g1
  · rw[I.list_inj q' q2];exact List.getElem?_eq_getElem g2
  · exact kz _ _ D.TIz (hk _ _ D.TIz D.TITO D.TIi1 D.TIi2 hTI)
  · exact a3.at fun o e=>kz _ _ D.i1z e
  · exact a4.at fun o e=>kz _ _ D.i2z e
  · have n:=(hf b hb).1
    simp only[List.mem_cons,List.not_mem_nil,or_false] at hb
    have ob:∃o,s.heap.get? b=some o:=by
     obtain⟨o1,x1,_⟩:=h1
     obtain⟨o2,x2,_⟩:=h2
     rcases hb with rfl|rfl|rfl|rfl|rfl
     · exact⟨_,hz⟩
     · exact⟨_,hTI⟩
     · exact⟨_,hTO⟩
     · exact⟨_,x1⟩
     · exact⟨_,x2⟩
    obtain⟨o,eo⟩:=ob
    rw[aR (Ne.symm (lt eo))]
    exact n
 done:=by
  intro X hP hw hK hc i pins s σ H E I hf st hg
  subst hP hw hK
  obtain⟨xs,ys,q1,q2,g⟩:=hg
  obtain⟨its1,r1,p1,z1⟩:=I.list q1
  obtain⟨its2,r2,p2,z2⟩:=I.list q2
  obtain⟨hz,hTI,⟨a,c,hTO⟩,h1,h2⟩:=st
  have l1':=r1.length
  have l2':=r2.length
  have hend:its1.toArray[i]? =none∨its2.toArray[i]? =none:=by
   rcases g with g|g
   · exact .inl (Array.getElem?_eq_none (by rw[List.size_toArray];omega))
   · exact .inr (Array.getElem?_eq_none (by rw[List.size_toArray];omega))
  refine wpAny_pyNext_zip_end (I.ok.hd hc) D hz hTI hTO h1 h2 p1.isList p2.isList hend fun h' hk=>⟨rfl, ?_⟩
  refine I.turnedL (t':=s.toks) (ch:=[z,TO,i1,i2]) (fun b o hb e=> ?_) (fun b hb=>hf b (by
   simp only[List.mem_cons,List.not_mem_nil,or_false] at hb ⊢
   rcases hb with rfl|rfl|rfl|rfl<;>simp))
  simp only[List.mem_cons,List.not_mem_nil,or_false,not_or] at hb
  exact hk b o hb.1 hb.2.1 hb.2.2.1 hb.2.2.2 e
 self:=fun _ _ _ _ _ st h=>wpAny_pyIter_zip st.1 h
end
def CS(K:W.Frag)(ta:TA):TI:=fun σ H R=>ta σ H fun vs H1=>∃l1 l2 xs ys,vs=[.ref l1, .ref l2]∧SqL K H1 l1 xs∧SqL K H1 l2 ys∧R (Itz K l1 l2) H1
theorem vU{n l1 l2:Nat}(h1:l1<n)(h2:l2<n):ZipApart (n+4) (n+2) (n+3) n (n+1) l1 l2:=by
 constructor<;>first|exact Nat.ne_of_lt (by omega)|exact Nat.ne_of_gt (by omega)
theorem tF{X:Cx}{a b:Expr}{ta:TA}{p pos tpos:Pos}{elts:List Expr}{kk:Nat}(hg:Gl X "zip")(hm:X.mg "zip"=none)(ha:PA X [a,b] ta)(hs:starEach [a,b] X.env=[(false,eval a X.env),(false,eval b X.env)]:=by rfl)(hs2:starEach [b] X.env=[(false,eval b X.env)]:=by rfl):
 PI X (.Tuple elts kk tpos) (.Call (.Name "zip" p) [a,b] [] pos) (CS X.K ta):=by
 intro pins s σ H R I h
 refine Call_ (mW I hg hm (show bootBuiltins "zip"=some (.type "zip") from by decide+kernel) (PyProof.Rows.callWith_type1 (thn (ha pos pins s σ H _ I h) fun us s1 ⟨vs,H1,I1,r1,q1⟩=> ?_) (by rw[hs,hs2]) (by rw[hs2];rfl)))
 obtain⟨l1,l2,xs,ys,e,q1,q2,q⟩:=q1
 subst e
 obtain⟨u1,u2,rfl,ru1,ru2⟩:=r1.two
 cases ru1
 cases ru2
 obtain⟨its1,v1,p1,z1⟩:=I1.list q1
 obtain⟨its2,v2,p2,z2⟩:=I1.list q2
 have b1:l1<s1.heap.objs.size:=by obtain⟨o,n,e,_⟩:=p1;exact Heap.lt_size e
 have b2:l2<s1.heap.objs.size:=by obtain⟨o,n,e,_⟩:=p2;exact Heap.lt_size e
 refine call_zip_2 p1.isList p2.isList fun h' hz hTI hTO h1 h2 sz hk=> ?_
 have D:=vU b1 b2
 refine wpAny_pyIter_zip hz ?_
 refine⟨_,_,z9 _ _ _ _ _ _ _,_,H1,rfl,I1.kept (t':=s1.toks) hk,wF _ _ _ _ _ _ _ D,⟨hz,hTI,⟨_,_,hTO⟩,h1,h2⟩,fun b hb=> ?_,q⟩
 have hb':s1.heap.objs.size≤b:=by
  simp only[List.mem_cons,List.not_mem_nil,or_false] at hb
  rcases hb with rfl|rfl|rfl|rfl|rfl
  · exact Nat.le_add_right _ _
  · exact Nat.le_add_right _ _
  · exact Nat.le_add_right _ _
  · exact Nat.le_refl _
  · exact Nat.le_add_right _ _
 exact I1.fpOk hb' (I1.hok.fresh hb')
section
variable{X:Cx}
def Bi(K:W.Frag):R2:=fun x y H Q=>rI0 (fun i j=> .bl (decide (i=j))) x y H Q∨CQ K x y H Q∨rEq x y H Q∨yF K false x y H Q
theorem jN(hu:X.A.units+64<cLine):OpR X (compareOp .Eq) (Bi X.K):=Bd.or ((Bc (by omega)).or (CC.or (Bg hu)))
def CT(K:W.Frag):R2:=fun x y H Q=>rI0 (fun i j=> .bl (!decide (i=j))) x y H Q∨rNe x y H Q∨yF K true x y H Q
theorem lQ(hu:X.A.units+64<cLine):OpR X (compareOp .NotEq) (CT X.K):=Be.or (CD.or (Bh hu))
end
theorem m4{α β:Type}{f:α→β→Sem (ForInStep β)}(g:β→α→β):∀(l:List α) (b:β),(∀x∈l,∀c,f x c=pure (.yield (g c x)))→forIn l b f=pure (l.foldl g b)
 |[],_,_=>rfl
 |x::l,b,h=>by
  rw[List.forIn_cons,h x List.mem_cons_self,pure_bind]
  exact m4 g l (g b x) fun y hy=>h y (List.mem_cons_of_mem _ hy)
def jj(cells:List (Str×Addr))(cs:List (Str×Addr))(x:Str×NameKind):List (Str×Addr):=if(x.2==NameKind.free)=true then(x.1,(cells.lookup x.1).getD 0)::cs else cs
theorem uF{cells:List (Str×Addr)}:∀(names:List (Str×NameKind)) (cs:List (Str×Addr)),(∀x∈names,x.2=NameKind.free→∃c,cells.lookup x.1=some c)→(∀x c,cs.lookup x=some c→cells.lookup x=some c)→
 (∀x c,(names.foldl (jj cells) cs).lookup x=some c→cells.lookup x=some c)∧(∀x,((∃c,cs.lookup x=some c)∨(x,NameKind.free)∈names)→∃c,(names.foldl (jj cells) cs).lookup x=some c)
 |[],cs,_,h=>⟨h,fun x q=>by
  rcases q with q|q
  · exact q
  · cases q⟩
 |(n,k)::r,cs,hf,h=>by
  have step:∀x c,(jj cells cs (n,k)).lookup x=some c→cells.lookup x=some c:=fun x c e=>by
   unfold jj at e
   by_cases hk:((n,k).2==NameKind.free)=true
   · rw[if_pos hk] at e
     obtain⟨c0,hc0⟩:=hf (n,k) List.mem_cons_self (by simpa using hk)
     by_cases hx:x=n
     · subst hx
       rw[List.lookup_cons_self] at e
       rw[hc0] at e ⊢
       exact e
     · have:(x==n)=false:=by simpa using hx
       rw[List.lookup_cons,this] at e
       exact h x c e
   · rw[if_neg hk] at e
     exact h x c e
  obtain⟨a,b⟩:=uF r (jj cells cs (n,k)) (fun x hx=>hf x (List.mem_cons_of_mem _ hx)) step
  refine⟨a,fun x q=>b x ?_⟩
  rcases q with⟨c,q⟩|q
  · left
    unfold jj
    by_cases hk:((n,k).2==NameKind.free)=true
    · rw[if_pos hk]
      by_cases hx:x=n
      · subst hx;exact⟨_,List.lookup_cons_self⟩
      · have:(x==n)=false:=by simpa using hx
        exact⟨c,by rw[List.lookup_cons,this];exact q⟩
    · rw[if_neg hk];exact⟨c,q⟩
  · rcases List.mem_cons.mp q with q|q
    · left
      cases q
      unfold jj
      rw[if_pos (by rfl)]
      exact⟨_,List.lookup_cons_self⟩
    · exact .inr q
theorem m5{scope:Scope}{env:Env}(h:∀x∈scope.names,x.2=NameKind.free→∃c,env.cells.lookup x.1=some c):
 ∃cl,closureFor scope env=pure cl∧(∀x c,cl.lookup x=some c→env.cells.lookup x=some c)∧(∀x,(x,NameKind.free)∈scope.names→∃c,cl.lookup x=some c):=by
 obtain⟨a,b⟩:=uF (cells:=env.cells) scope.names [] h (fun x c e=>by simp at e)
 refine⟨_, ?_,a,fun x q=>b x (.inr q)⟩
 simp only[closureFor]
 rw[m4 (jj env.cells) _ _ (fun x hx c=>by
  obtain⟨n,kind⟩:=x
  unfold jj
  cases hk:(kind==NameKind.free) with
  |false=>simp only[hk,Bool.false_eq_true,if_false]
  |true=>
   obtain⟨c0,hc0⟩:=h (n,kind) hx (by simpa using hk)
   simp only[hk,if_true,cellOf]
   rw[show List.lookup n env.cells=some c0 from hc0]
   rfl)]
 rfl
def bv(X:Cx)(scope:Scope)(N:List Str)(cl:List (Str×Addr))(C:Addr)(s₀:Shared)(H₀:Hp)(ex:List Addr):Cx where
 prog:=X.prog
 w:=X.w
 K:=X.K
 mg:=X.mg
 base:=X.base
 A:=X.A
 N:=N
 s₀:=s₀
 H₀:=H₀
 env:=compEnvC scope cl C X.env
 outer:=X.stack
 stack:=X.stack
 ex:=ex
 fn:=fun _=>false
 calm:=X.calm
 pn:=[]
 xe:=fun _ _=>False
def vV(X:Cx)(ifs:List Expr)(t:TT):Prop:=∀(pins:List (Addr×Obj)) (s:Shared) (σ:St) (H:Hp) (Q:Bool→Hp→Prop),Inv X pins σ H s→t σ H Q→
 wpAny (model X.prog X.w) X.A (forIn ifs true fun c r=>if r=true then do let ok ←isTrue c X.env (eval c X.env);pure (ForInStep.yield ok) else pure (ForInStep.yield r)) (TP X pins σ Q) X.xe s
def CU:TT:=fun _ H Q=>Q true H
theorem iD{X:Cx}:vV X [] CU:=fun _ _ _ H _ I h=>wpAny_tests_nil ⟨H,I,h⟩
theorem iE{X:Cx}{c:Expr}{t:TT}(h:PT X c t):vV X [c] t:=fun pins s σ H Q I q=>wpAny_tests_one (h pins s σ H Q I q)
def m6(cap:List Nat)(x:Option V)(σ:St):St:=x::cap.map fun i=>(σ[i]?).join
def wG(J:It)(tc:TT)(te:TE)(cap:List Nat)(σ:St)(Q:VK)(H1:Hp):Prop:=∀acc,H1 acc=none→∃W:Nat→Nat→Hp→Prop,(∃m,W 0 m (upd H1 acc (.lst [])))∧∀i m H,W i m H→
 (J.stop i H∧Q (.ref acc) H)∨(J.go i H∧∀x H',J.yld i H x H'→tc (m6 cap (some x) σ) H' fun b H3=>if b=true then te (m6 cap (some x) σ) H3 fun y H4=>∃ys,H4 acc=some (.lst ys)∧ys.length<sizeLine∧∃m',m'<m∧W (i+1) m' (upd H4 acc (.lst (ys++[y]))) else ∃m',m'<m∧W (i+1) m' H3)
def wH(wi:TI)(tc:TT)(te:TE)(cap:List Nat):TE:=fun σ H Q=>wi σ H fun J H1=>wG J tc te cap σ Q H1
theorem bV{env:Env}:∀{names:List (Str×NameKind)} {x:Str},names.lookup x=some .free→
 (names.map fun(n,k)=>if(k==NameKind.free&&env.scope.kind== .function&&env.kindOf n==some .cell) then(n,NameKind.cell) else(n,k)).lookup x=some .cell∨
 (names.map fun(n,k)=>if(k==NameKind.free&&env.scope.kind== .function&&env.kindOf n==some .cell) then(n,NameKind.cell) else(n,k)).lookup x=some .free
 |[],_,h=>by simp at h
 |(n,k)::r,x,h=>by
  have ih:=@bV env r x
  show List.lookup x ((if(k==NameKind.free&&env.scope.kind== .function&&env.kindOf n==some .cell)=true then(n,NameKind.cell) else(n,k))::_)=_∨
   List.lookup x ((if(k==NameKind.free&&env.scope.kind== .function&&env.kindOf n==some .cell)=true then(n,NameKind.cell) else(n,k))::_)=_
  cases hx:x==n with
  |true=>
   simp only[List.lookup_cons,hx] at h
   cases h
   by_cases hc:(NameKind.free==NameKind.free&&env.scope.kind== .function&&env.kindOf n==some .cell)=true
   · rw[if_pos hc];left;simp[List.lookup_cons,hx]
   · rw[if_neg hc];right;simp[List.lookup_cons,hx]
  |false=>
   simp only[List.lookup_cons,hx] at h
   by_cases hc:(k==NameKind.free&&env.scope.kind== .function&&env.kindOf n==some .cell)=true
   · rw[if_pos hc];simp only[List.lookup_cons,hx];exact ih h
   · rw[if_neg hc];simp only[List.lookup_cons,hx];exact ih h
theorem ic{env:Env}:∀{names:List (Str×NameKind)} {x:Str},(∀y∈names,y.2≠ .cell)→
 ((names.map fun(n,k)=>if(k==NameKind.free&&env.scope.kind== .function&&env.kindOf n==some .cell) then(n,NameKind.cell) else(n,k)).lookup x=some .cell∨
 (names.map fun(n,k)=>if(k==NameKind.free&&env.scope.kind== .function&&env.kindOf n==some .cell) then(n,NameKind.cell) else(n,k)).lookup x=some .free)→(x,NameKind.free)∈names
 |[],_,_,h=>by simp at h
 |(n,k)::r,x,hcell,h=>by
  have ih:=@ic env r x (fun y hy=>hcell y (List.mem_cons_of_mem _ hy))
  have hk:=hcell (n,k) List.mem_cons_self
  cases hx:x==n with
  |true=>
   have e:x=n:=by simpa using hx
   subst e
   by_cases hc:(k==NameKind.free&&env.scope.kind== .function&&env.kindOf x==some .cell)=true
   · have:k= .free:=by
      rw[Bool.and_eq_true,Bool.and_eq_true] at hc
      simpa using hc.1.1
     subst this
     exact List.mem_cons_self
   · have h':List.lookup x ((if(k==NameKind.free&&env.scope.kind== .function&&env.kindOf x==some .cell)=true then(x,NameKind.cell) else(x,k))::(r.map fun(n,k)=>if(k==NameKind.free&&env.scope.kind== .function&&env.kindOf n==some .cell) then(n,NameKind.cell) else(n,k)))=some .cell∨
      List.lookup x ((if(k==NameKind.free&&env.scope.kind== .function&&env.kindOf x==some .cell)=true then(x,NameKind.cell) else(x,k))::(r.map fun(n,k)=>if(k==NameKind.free&&env.scope.kind== .function&&env.kindOf n==some .cell) then(n,NameKind.cell) else(n,k)))=some .free:=h
     rw[if_neg hc,List.lookup_cons_self] at h'
     rcases h' with h'|h'
     · exact absurd (Option.some.inj h') hk
     · have:=Option.some.inj h'
       subst this
       exact List.mem_cons_self
  |false=>
   refine List.mem_cons_of_mem _ (ih ?_)
   have h':List.lookup x ((if(k==NameKind.free&&env.scope.kind== .function&&env.kindOf n==some .cell)=true then(n,NameKind.cell) else(n,k))::(r.map fun(n,k)=>if(k==NameKind.free&&env.scope.kind== .function&&env.kindOf n==some .cell) then(n,NameKind.cell) else(n,k)))=some .cell∨
    List.lookup x ((if(k==NameKind.free&&env.scope.kind== .function&&env.kindOf n==some .cell)=true then(n,NameKind.cell) else(n,k))::(r.map fun(n,k)=>if(k==NameKind.free&&env.scope.kind== .function&&env.kindOf n==some .cell) then(n,NameKind.cell) else(n,k)))=some .free:=h
   by_cases hc:(k==NameKind.free&&env.scope.kind== .function&&env.kindOf n==some .cell)=true
   · rw[if_pos hc] at h';simp only[List.lookup_cons,hx] at h';exact h'
   · rw[if_neg hc] at h';simp only[List.lookup_cons,hx] at h';exact h'
section
variable{X:Cx}{pins:List (Addr×Obj)}{σ:St}{H:Hp}{s:Shared}
structure CompScope(X:Cx)(scope:Scope)(x:Str)(cn:List Str)(cap:List Nat):Prop where
 kind:scope.kind= .function
 names:∀y∈scope.names,y.2= .local→scope.names.lookup y.1=some .local
 cell:∀y∈scope.names,y.2≠ .cell
 own:scope.names.lookup x=some .local
 free:∀y∈scope.names,y.2= .free→X.env.kindOf y.1=some .cell∨X.env.kindOf y.1=some .free
 cap:cap.map (fun i=>X.N[i]?)=cn.map some
 capf:∀y∈cn,scope.names.lookup y=some .free
 capo:∀y∈cn,X.env.scope.names.lookup y=some .cell∨X.env.scope.names.lookup y=some .free
 nd:(x::cn).Nodup
theorem yG{scope:Scope}{x:Str}{cn:List Str}{cap:List Nat}{cl:List (Str×Addr)}{C:Addr}{fp:List Addr}(S:CompScope X scope x cn cap)(I:Inv X pins σ H s)(hf:∀b∈fp,kr X pins H b)(hlt:∀b∈fp,b<s.heap.objs.size)
 (hc1:∀y c,cl.lookup y=some c→X.env.cells.lookup y=some c)(hc2:∀y,(y,NameKind.free)∈scope.names→∃c,cl.lookup y=some c)(hC:s.heap.objs.size≤C):(bv X scope (x::cn) cl C s H fp).Ok where
 mod:=I.ok.mod
 kind:=S.kind
 glob:=I.ok.glob
 blt:=I.ok.blt
 above:=hC
 inj:=fun y z c h1 h2=>I.ok.inj y z c (hc1 y c h1) (hc1 z c h2)
 has:=fun y h=>hc2 y (ic (env:=X.env) S.cell h)
 cab:=fun y c h=>by cases (show false=true from h)
 hd:=I.ok.hd
 frames:=I.ok.frames
 stk:= .inl rfl
 exf:=fun b hb=>⟨Nat.ne_of_lt (Nat.lt_of_lt_of_le (hlt b hb) hC),fun y c h=>(hf b hb).2.2.2.2.1 y c (hc1 y c h)⟩
 bs:=I.bs
 bsz:=Nat.le_trans I.ok.bsz I.sz
 noex:=fun b o e hb=>by
  rcases(hf b hb).2.2.2.1 with z|z
  · exact I.ok.noex b o e z
  · have h1:=Heap.lt_size e
    exact absurd (Nat.lt_of_lt_of_le h1 (Nat.le_trans I.ok.bsz z)) (Nat.lt_irrefl _)
 exfs:=fun b hb z=>by
  rcases List.mem_cons.mp (I.stkSub b z) with q|q
  · exact(hf b hb).2.1 q
  · exact(hf b hb).2.2.1 q
 funs:=I.stack
 frf:=I.stkFree
theorem uG{α β:Type}{l:List α}{f:α→Option β}{m:List β}(h:l.map f=m.map some):∀{j:Nat} {y:β},m[j]? =some y→∃i,l[j]? =some i∧f i=some y:=by
 intro j y e
 have h2:=congrArg (fun z=>z[j]?) h
 simp only[List.getElem?_map] at h2
 rw[e] at h2
 cases q:l[j]? with
 |none=>rw[q] at h2;cases h2
 |some i=>
  rw[q] at h2
  exact⟨i,rfl,by simpa using h2⟩
theorem vW{elt iter:Expr}{x:Str}{px:Pos}{ifs:List Expr}{scope:Scope}{pos:Pos}{wi:TI}{tc:TT}{te:TE}(cn:List Str)(cap:List Nat)(S:CompScope X scope x cn cap)(hc:X.calm=true)
 (hi:PI X (.Name x px) iter wi)(hin:∀cl C s₀ H₀ ex,vV (bv X scope (x::cn) cl C s₀ H₀ ex) ifs tc)(he:∀cl C s₀ H₀ ex,PE (bv X scope (x::cn) cl C s₀ H₀ ex) elt te)
 (hs:∀z,foldedSetIterable iter X.env z=pure z){use:Option (Value→Sem Unit)}{Q:VK}{Q':Value→Shared→Prop}{pins:List (Addr×Obj)}{s:Shared}{σ:St}{H:Hp}(I:Inv X pins σ H s)(h:wH wi tc te cap σ H Q)
 (fin:∀(d C:Addr) (H':Hp) (s':Shared) (m:_),Inv X pins σ H' s'→kr X pins H' C→s'.heap.Ns C m→Q (.ref d) H'→∀r,compPost (model X.prog X.w) X.A X.xe use Q' (.ref d) C (.ok r) s'):
 wpAny (model X.prog X.w) X.A (comprehension (.ListComp elt [⟨.Name x px,iter,ifs,0⟩] scope pos) scope X.env (firstIterPos [⟨.Name x px,iter,ifs,0⟩] pos) (newList []) false (firstIter [⟨.Name x px,iter,ifs,0⟩] X.env) use) Q' X.xe s:=by
 obtain⟨cl,hclos,hc1,hc2⟩:=m5 (scope:=scope) (env:=X.env) fun y hy hk=>I.ok.has y.1 (S.free y hy hk)
 refine wpAny_comprehension_free (use:=use) rfl hs hclos S.kind S.names (thn (hi pins s σ H _ I h) fun v s1 h1=>thn h1 fun itv s2 h2=> ?_)
 obtain⟨it,fp,tn,J,H2,e,I2,T,st2,f2,q2⟩:=h2
 subst e
 have hlt:∀b∈fp,b<s2.heap.objs.size:=fun b hb=>by
  obtain⟨o,e,_⟩:=T.obj _ _ st2 b hb
  exact Heap.lt_size e
 refine wpAny_newObj_type (wpAny_newFunctionEnv S.cell (by intro y hy;simp at hy) (fun h₁ hns₁ hsb₁=> ?_) S.kind)
 dsimp only at hns₁ hsb₁ ⊢
 generalize hP:s2.heap.push {cls:= .type "list",dict:=none,data:= .seq ([]:List Value).toArray}=P2 at hns₁ hsb₁ ⊢
 have hC:P2.objs.size=s2.heap.objs.size+1:=by rw[←hP,Heap.size_push]
 have hDC:s2.heap.objs.size≠P2.objs.size:=by rw[hC];exact Nat.ne_of_lt (Nat.lt_succ_self _)
 have hCle:s2.heap.objs.size≤P2.objs.size:=by rw[hC];exact Nat.le_succ _
 have neC:∀b,b<s2.heap.objs.size→b≠P2.objs.size:=fun b hb=>by rw[hC];exact Nat.ne_of_lt (Nat.lt_succ_of_lt hb)
 have old:∀b o,s2.heap.get? b=some o→h₁.get? b=some o:=fun b o e=>hsb₁.extBut b o (neC b (Heap.lt_size e)) (Heap.get?_push_of_some _ (hP▸Heap.get?_push_of_some _ e))
 have hacc:h₁.get? s2.heap.objs.size=some {cls:= .type "list",dict:=none,data:= .seq ([]:List Value).toArray}:=hsb₁.extBut _ _ hDC (Heap.get?_push_of_some _ (hP▸Heap.get?_push_size _ rfl))
 have hD0:H2 s2.heap.objs.size=none:=I2.hok.fresh (Nat.le_refl _)
 have ok':(bv X scope (x::cn) cl P2.objs.size s2 H2 fp).Ok:=yG S I2 f2 hlt hc1 hc2 hCle
 obtain⟨W,⟨m0,w0⟩,turn⟩:=q2 _ hD0
 have hok1:HOk X.prog X.w (upd H2 s2.heap.objs.size (.lst [])) h₁:=I2.hok.laid old (Nat.le_refl _) ⟨Nat.zero_le _,[],_, .nil,hacc⟩
 have un1:Un (frs X.stack) fp H2 (upd H2 s2.heap.objs.size (.lst [])) s2.heap h₁:=Un.laid old (Nat.le_refl _) hD0
 have I4:∀tk,Inv (bv X scope (x::cn) cl P2.objs.size s2 H2 fp) [] (m6 cap none σ) (upd H2 s2.heap.objs.size (.lst [])) {s2 with heap:=h₁,toks:=tk}:=fun tk=>by
  refine⟨ok',rfl,I2.bare,un1,⟨_,hns₁,fun i y v e1 e2 e3=> ?_⟩,fun y c e=> ?_, ?_,fun y c e=> ?_,fun p hp=>(nomatch hp),hok1, ?_⟩
  · cases i with
    |zero=>cases (show (none:Option V)=some v from Option.some.inj e2)
    |succ j=>
     have e1':cn[j]? =some y:=e1
     have ymem:y∈cn:=List.mem_of_getElem? e1'
     obtain⟨i0,ci,ni⟩:=uG S.cap e1'
     have e2':(cap.map fun i=>(σ[i]?).join)[j]? =some (some v):=e2
     rw[List.getElem?_map,ci] at e2'
     have e3':(σ[i0]?).join=some v:=Option.some.inj e2'
     have e4:σ[i0]? =some (some v):=by
      cases q:σ[i0]? with
      |none=>rw[q] at e3';cases e3'
      |some o=>rw[q] at e3';exact congrArg some e3'
     obtain⟨m,hn,hl⟩:=I2.loc
     have vis:Vis X.env.scope y:= .inr (S.capo y ymem)
     obtain⟨u,r,lk⟩:=hl i0 y v ni e4 vis
     refine⟨u,r, .inr ⟨bV (env:=X.env) (S.capf y ymem), ?_⟩⟩
     rcases lk with⟨kl,_⟩|⟨_,c,ec,hcell⟩
     · rcases S.capo y ymem with z|z
       · have kl':X.env.scope.names.lookup y=some .local:=kl
         rw[z] at kl';cases kl'
       · have kl':X.env.scope.names.lookup y=some .local:=kl
         rw[z] at kl';cases kl'
     · have fm:(y,NameKind.free)∈scope.names:=ic (env:=X.env) S.cell (bV (env:=X.env) (S.capf y ymem))
       obtain⟨c',ec'⟩:=hc2 y fm
       have:=hc1 y c' ec'
       rw[ec] at this
       cases this
       obtain⟨o,ho,hd⟩:=hcell
       exact⟨c,ec',o,old _ _ ho,hd⟩
  · obtain⟨v,o,ho,hd⟩:=I2.cell y c (hc1 y c e)
    exact⟨v,o,old _ _ ho,hd⟩
  · show (upd H2 s2.heap.objs.size (.lst [])) P2.objs.size=none
    rw[aR (Ne.symm hDC)]
    exact I2.hok.fresh hCle
  · obtain⟨v,o,ho,hd⟩:=I2.cell y c (hc1 y c e)
    rw[aR (Nat.ne_of_lt (Heap.lt_size ho))]
    exact I2.freeC y c (hc1 y c e)
  · show (m6 cap none σ).length=(x::cn).length
    have:=congrArg List.length S.cap
    simp only[List.length_map] at this
    simp[m6,this]
 have stat:∀{H':Hp},(∀b∈fp,H' b=none)→∀b∈fp,kr (bv X scope (x::cn) cl P2.objs.size s2 H2 fp) [] H' b:=fun hn b hb=>
  ⟨hn b hb,neC b (hlt b hb),ok'.exfs b hb, .inl hb,fun y c e=>(ok'.exf b hb).2 y c e,fun p hp=>(nomatch hp)⟩
 have pgx:PG (bv X scope (x::cn) cl P2.objs.size s2 H2 fp) (.Name x px) (jI 0):=aF (i:=0) S.nd rfl (.inl (lookup_relabel_local (env:=X.env) S.own)) (.inr (lookup_relabel_local (env:=X.env) S.own))
 have loop:∀s₃:Shared,s₃={s2 with heap:=h₁,toks:=s2.toks+([]:List (Str×Value)).length}→
  codeAny (model X.prog X.w) X.A (.compLoop (.ListComp elt [⟨.Name x px,iter,ifs,0⟩] scope pos) 0 (.ref it) (.ref s2.heap.objs.size) (compEnvC scope cl P2.objs.size X.env))
   (compPost (model X.prog X.w) X.A X.xe use Q' (.ref s2.heap.objs.size) P2.objs.size) s₃:=by
  rintro s₃ rfl
  refine codeAny_loop rfl (fun n s'=>∃i H',Inv (bv X scope (x::cn) cl P2.objs.size s2 H2 fp) [] (m6 cap none σ) H' s'∧tn i s'.heap∧(∀b∈fp,H' b=none)∧W i n H') ?_ m0
   ⟨0,_,I4 _,T.keep _ _ _ st2 fun b hb o e=>old b o e,fun b hb=>by rw[aR (Nat.ne_of_lt (hlt b hb))];exact(f2 b hb).1,w0⟩
  rintro n s3 ⟨i,H3,I3,st3,fr3,w3⟩
  show wpAny _ X.A ((compTurn (.ListComp elt [⟨.Name x px,iter,ifs,0⟩] scope pos) 0 (.ref it) (.ref s2.heap.objs.size) (compEnvC scope cl P2.objs.size X.env)).onRaise (fun x=>do noteFrame x (compEnvC scope cl P2.objs.size X.env);theTreesLotGoes x)) _ _ s3
  refine wpAny_noted ?_
  rw[compTurn_list]
  refine wpAny_bind (wpAny_standAt (wpAny_bind ?_))
  rcases turn i n H3 w3 with⟨stop,qn⟩|⟨go,step⟩
  · refine wpAny_mono (T.done (bv X scope (x::cn) cl P2.objs.size s2 H2 fp) rfl rfl rfl hc i [] s3 _ H3 (fun _ _=>False) I3 (stat fr3) st3 stop) (fun r s4 ⟨hr,I5⟩=> ?_) fun _ _ z=>z.elim
    subst hr
    refine wpAny_pure ?_
    obtain⟨m,hn,_⟩:=id I5.loc
    have J:Inv X pins σ H3 s4:=by
     have kp:∀b o,b≠P2.objs.size→s4.heap.get? b=some o→s4.heap.get? b=some o:=fun b o hb e=>e
     have b0:=I5.base
     have sm:∀b o,s2.heap.get? b=some o→b≠P2.objs.size:=fun b o e=>neC b (Heap.lt_size e)
     refine I2.call' (s':=s4) (ch:=fp) I5.os ⟨fun b o e n hb hx=>kp _ _ (sm b o e) (b0.keep b o e n hb hx),fun b o e n hb hx=> ?_,b0.free,fun b o e hx=> ?_,b0.tups,b0.frzs,b0.tbls⟩ (fun b u e=> ?_) I5.bare
      fun b hb=>⟨(f2 b hb).2.2.2.1,(f2 b hb).2.1,(f2 b hb).2.2.2.2.1,(f2 b hb).2.2.2.2.2⟩
     · obtain⟨sl,q⟩:=b0.slot b o e n hb hx
       exact⟨sl,kp _ _ (sm b o e) q⟩
     · obtain⟨o',q⟩:=b0.there b o e hx
       exact⟨o',kp _ _ (sm b o e) q⟩
     · have hfree:H3 P2.objs.size=none:=I5.free
       refine(I5.hok b u e).stay (fun c v hc' q=>kp c v ?_ q) (fun _ q=>q) fun _ _ q=>q
       rcases hc' with z|z
       · rw[z];exact aM e hfree
       · exact aM z hfree
    have fC:kr X pins H3 P2.objs.size:=by
     have q:=I2.fpOk hCle (I2.hok.fresh hCle)
     exact⟨I5.free,q.2⟩
    exact fin _ _ _ _ m J fC hn qn _
  · refine wpAny_mono (T.item (bv X scope (x::cn) cl P2.objs.size s2 H2 fp) rfl rfl rfl hc i [] s3 _ H3 (fun _ _=>False) I3 (stat fr3) st3 go) (fun r s4 ⟨u,hr,h4⟩=> ?_) fun _ _ z=>z.elim
    subst hr
    refine wpAny_bind (wpAny_mono h4 (fun _ s5 ⟨xv,H5,I5,r5,y5,st5,fr5⟩=> ?_) fun _ _ z=>z.elim)
    have I5':=I5.pinned (stat fr5) (T.obj _ _ st5)
    refine wpAny_bind (wpAny_mono (pgx _ s5 _ H5 xv u (fun σ6 H6=>σ6=m6 cap (some xv) σ∧H6=H5) I5' r5 ⟨rfl,rfl⟩) (fun _ s6 ⟨σ6,H6,I6,e6,e6'⟩=> ?_) fun _ _ z=>z.elim)
    subst e6 e6'
    have again:∀{s7:Shared} {H7:Hp},Inv (bv X scope (x::cn) cl P2.objs.size s2 H2 fp) ([]++lL fp s5.heap) (m6 cap (some xv) σ) H7 s7→(∃m',m'<n∧W (i+1) m' H7)→
     ∃m,m<n∧∃i H',Inv (bv X scope (x::cn) cl P2.objs.size s2 H2 fp) [] (m6 cap none σ) H' s7∧tn i s7.heap∧(∀b∈fp,H' b=none)∧W i m H':=fun {s7 H7} I7 w7=>by
     obtain⟨m',hm,w7⟩:=w7
     refine⟨m',hm,i+1,H7,I7.unpinned.weak rfl fun j v ev=> ?_,T.keep _ _ _ st5 fun b hb o e=>(I7.pin (b,o) (List.mem_append_right _ (List.mem_append_right _ (gf hb e)))).1,fun b hb=> ?_,w7⟩
     · cases j with
       |zero=>cases (show (none:Option V)=some v from Option.some.inj ev)
       |succ j=>exact ev
     · obtain⟨o,e,d⟩:=T.obj _ _ st5 b hb
       exact(I7.pin (b,o) (List.mem_append_right _ (List.mem_append_right _ (gf hb e)))).2.1
    refine wpAny_bind (wpAny_mono (hin cl P2.objs.size s2 H2 fp _ s6 _ _ _ I6 (step xv _ y5)) (fun ok s7 ⟨H7,I7,q7⟩=> ?_) fun _ _ z=>z.elim)
    cases ok with
    |false=>
     have q7':∃m',m'<n∧W (i+1) m' H7:=by simpa using q7
     exact wpAny_pure ⟨rfl,again I7 q7'⟩
    |true=>
     have q7':=(if_pos rfl).mp q7
     refine wpAny_bind (wpAny_bind (wpAny_mono (he cl P2.objs.size s2 H2 fp _ s7 _ H7 _ I7 q7') (fun yv s8 ⟨y,H8,I8,r8,ys,h8,z8,q8⟩=> ?_) fun _ _ z=>z.elim))
     refine wpAny_bind (wpAny_mono (bM (X:=bv X scope (x::cn) cl P2.objs.size s2 H2 fp) _ s8 _ H8 (.ref s2.heap.objs.size) [y] (.ref s2.heap.objs.size) [yv] (fun _ H9=>∃m',m'<n∧W (i+1) m' H9) I8 rfl (.cons r8 .nil) ⟨_,ys,y,rfl,rfl,h8,z8,q8⟩) (fun _ s9 ⟨_,H9,I9,_,q9⟩=> ?_) fun _ _ z=>z.elim)
     exact wpAny_pure (wpAny_pure ⟨rfl,again I9 q9⟩)
 exact codeAny_compStart_list (loop _ rfl) (T.self _ 0 _ _ _ (T.keep _ _ _ st2 fun b hb o e=>old b o e) (loop _ rfl))
theorem d6{elt iter:Expr}{x:Str}{px:Pos}{ifs:List Expr}{scope:Scope}{pos:Pos}{wi:TI}{tc:TT}{te:TE}(cn:List Str)(cap:List Nat)(S:CompScope X scope x cn cap)(hc:X.calm=true)
 (hi:PI X (.Name x px) iter wi)(hin:∀cl C s₀ H₀ ex,vV (bv X scope (x::cn) cl C s₀ H₀ ex) ifs tc)(he:∀cl C s₀ H₀ ex,PE (bv X scope (x::cn) cl C s₀ H₀ ex) elt te)
 (hs:∀z,foldedSetIterable iter X.env z=pure z:=by intro _;rfl):PE X (.ListComp elt [⟨.Name x px,iter,ifs,0⟩] scope pos) (wH wi tc te cap):=by
 intro pins s σ H Q I h
 rw[eval_ListComp]
 refine vW cn cap S hc hi hin he hs I h fun d C H' s' m J fC hn qn r=>⟨m,hn,fun h' hsb=>⟨.ref d,H', ?_,rfl,qn⟩⟩
 refine J.turnedL (t':=s'.toks) (ch:=[C]) (fun b o hb e=>hsb.extBut b o (by simpa using hb) e) (fun b hb=> ?_)
 cases List.mem_singleton.mp hb
 exact fC
end
section
variable{X:Cx}
def CV:V→Option Int→Option Int→Hp→VK→Prop:=fun x lo hi H Q=>∃z,x= .str z∧z.length≤sizeLine∧Q (.str (Txt.slice z lo hi)) H
theorem Bj:SlR X CV:=by
 intro pins s σ H x v vl vu lo hi sl Q I rx hs pl pu h
 obtain⟨z,rfl,hz,q⟩:=h
 obtain⟨t,rfl⟩:=rx
 refine⟨"str",_,F.slot_str_getitem.lookup,typeIs_str _ _ _, ?_⟩
 cases pl with
 |none=>
  cases pu with
  |none=>exact wpAny_getItem_str_slice (l:=none) (u:=none) (st:=none) hs rfl (post_val_or_str ⟨Nat.le_trans (Txt.slice_le z _ _) hz,fun t' k=>⟨.str _,H,I.tok k,⟨_,rfl⟩,q⟩⟩)
  |int j uj=>exact wpAny_getItem_str_slice (l:=none) (u:=some (j,uj)) (st:=none) hs rfl (post_val_or_str ⟨Nat.le_trans (Txt.slice_le z _ _) hz,fun t' k=>⟨.str _,H,I.tok k,⟨_,rfl⟩,q⟩⟩)
 |int i ui=>
  cases pu with
  |none=>exact wpAny_getItem_str_slice (l:=some (i,ui)) (u:=none) (st:=none) hs rfl (post_val_or_str ⟨Nat.le_trans (Txt.slice_le z _ _) hz,fun t' k=>⟨.str _,H,I.tok k,⟨_,rfl⟩,q⟩⟩)
  |int j uj=>exact wpAny_getItem_str_slice (l:=some (i,ui)) (u:=some (j,uj)) (st:=none) hs rfl (post_val_or_str ⟨Nat.le_trans (Txt.slice_le z _ _) hz,fun t' k=>⟨.str _,H,I.tok k,⟨_,rfl⟩,q⟩⟩)
def CW(K:W.Frag):V→Option Int→Option Int→Hp→VK→Prop:=fun x lo hi H Q=>CN K x lo hi H Q∨CJ K x lo hi H Q∨CV x lo hi H Q
theorem slX:SlR X (CW X.K):=yA.or (A2.or Bj)
def Aa:R2:=fun x y H Q=>∃a n,x= .str a∧y= .int n∧a.length≤16∧0≤n∧n≤1000000∧Q (.str (Txt.mul a n)) H
theorem yH:OpR X (binaryOp .Mult) Aa:=by
 intro pins s σ H x y v u Q I rx ry h
 obtain⟨a,n,rfl,rfl,h1,h2,h3,q⟩:=h
 obtain⟨t,rfl⟩:=rx
 obtain⟨t',rfl⟩:=ry
 exact SB.mul (mulOk_of 16 1048576 h1 (by omega) (by omega) (by decide) (by decide)) fun t' k=>⟨.str _,H,I.tok _,⟨_,rfl⟩,q⟩
def Ab:R2:=fun x y H Q=>rI IntMulOk (fun i j=> .int (i*j)) x y H Q∨CP x y H Q∨Aa x y H Q
theorem cC:OpR X (binaryOp .Mult) Ab:=yD.or (A8.or yH)
def Its(z:Str):It:=⟨fun i _=>i<z.cps.size,fun i H x H'=>H'=H∧∃c,z.cps.toList[i]? =some c∧x= .str ⟨#[c]⟩,fun i _=>i=z.cps.size⟩
theorem wI{P:Program}{w:World}{K:PySem.W.Frag}{tg:Expr}{T:String}{z:Str}{t:Tok}(it:Addr)(hT:["enumerate","zip","dict_itemiterator","dict_reverseitemiterator","odict_iterator","itertools.zip_longest","itertools.pairwise"].contains T=false)
 (W:∀A:Around,A.handled=none→Walks P w A it [it] [it] z.cps.size (SignAt z) (fun i h=>h.IsStrIter it T z t i))(W0:∀(A:Around) (i:Nat) (s:Shared) (Q:Value→Shared→Prop) (E:Value→Shared→Prop),s.heap.IsStrIter it T z t i→Q (.ref it) s→wpAny (model P w) A (pyIter (.ref it)) Q E s):
 Turn P w K tg (Its z) [it] it (fun i h=>h.IsStrIter it T z t i) where
 mem:=by simp
 obj:=fun i h st b hb=>by
  have e:b=it:=by simpa using hb
  subst e
  obtain⟨o,e,c,d⟩:=st
  exact⟨o,e,fun v q=>by rw[d] at q;cases q⟩
 keep:=fun i h h' st k=>by
  obtain⟨o,e,c,d⟩:=st
  exact⟨o,k it (by simp) o e,c,d⟩
 item:=by
  intro X hP hw hK hc i pins s σ H E I hf st hg
  subst hP hw hK
  obtain⟨f0,f1,f2,f3,f4,f5⟩:=hf it (by simp)
  refine(W X.A (I.ok.hd hc)).item i s _ _ hg st fun v h' tk hv st' kk=> ?_
  obtain⟨c,u,hc',rfl⟩:=hv
  have I1:Inv X pins σ H {s with heap:=h',toks:=tk}:=I.turned (fun b o hb e=>kk b o (by simpa using hb) e) f0 f1 f3 f4 f5
  obtain⟨o,e,hcl,hd⟩:=id st'
  refine⟨_,rfl,uu (s:={s with heap:=h',toks:=tk}) e hcl hd hT ⟨.str ⟨#[c]⟩,H,I1,⟨u,rfl⟩,⟨rfl,c, ?_,rfl⟩,st',fun b hb=>(hf b hb).1⟩⟩
  rw[←hc'];simp
 done:=by
  intro X hP hw hK hc i pins s σ H E I hf st hg
  subst hP hw hK
  obtain⟨f0,f1,f2,f3,f4,f5⟩:=hf it (by simp)
  have hg':i=z.cps.size:=hg
  subst hg'
  exact(W X.A (I.ok.hd hc)).done s _ _ st fun h' tk hk=>⟨rfl,I.turned (fun b o hb e=>hk b o (by simpa using hb) e) f0 f1 f3 f4 f5⟩
 self:=fun A i s Q E st h=>W0 A i s Q E st h
def CY(te:TE):TI:=fun σ H R=>te σ H fun x H1=>∃z,x= .str z∧R (Its z) H1
theorem be{tg e:Expr}{te:TE}(he:PE X e te):PI X tg e (CY te):=by
 intro pins s σ H R I h
 refine thn (he pins s σ H _ I h) fun v s1 ⟨x,H1,I1,r1,z,ez,q⟩=> ?_
 subst ez
 obtain⟨t,rfl⟩:=r1
 have fin:∀(T:String),(["enumerate","zip","dict_itemiterator","dict_reverseitemiterator","odict_iterator","itertools.zip_longest","itertools.pairwise"].contains T=false)→
  (∀A:Around,A.handled=none→Walks X.prog X.w A s1.heap.objs.size [s1.heap.objs.size] [s1.heap.objs.size] z.cps.size (SignAt z) (fun i h=>h.IsStrIter s1.heap.objs.size T z t i))→
  (∀(A:Around) (i:Nat) (s:Shared) (Q:Value→Shared→Prop) (E:Value→Shared→Prop),s.heap.IsStrIter s1.heap.objs.size T z t i→Q (.ref s1.heap.objs.size) s→wpAny (model X.prog X.w) A (pyIter (.ref s1.heap.objs.size)) Q E s)→
  PIE X pins σ tg R (.ref s1.heap.objs.size) {s1 with heap:=s1.heap.push {cls:= .type T,data:= .fields #[.str z t, .int 0 0]}}:=fun T hT W W0=>by
  refine⟨s1.heap.objs.size,[s1.heap.objs.size],_,Its z,H1,rfl,I1.kept (t':=s1.toks) fun b o e=>Heap.get?_push_of_some _ e,wI s1.heap.objs.size hT W W0,⟨_,Heap.get?_push_size _ rfl,rfl,rfl⟩,fun b hb=> ?_,q⟩
  have e:b=s1.heap.objs.size:=by simpa using hb
  subst e
  exact I1.fpOk (Nat.le_refl _) (I1.hok.fresh (Nat.le_refl _))
 cases ha:z.cps.all (· <128)
 · exact wpAny_pyIter_wide ha (fin "str_iterator" (by decide) (fun A hA=>Walks.strWide hA _ z t) fun A i s Q E st h=>wpAny_pyIter_striter_wide st h)
 · exact wpAny_pyIter_ascii ha (fin "str_ascii_iterator" (by decide) (fun A hA=>Walks.strAscii hA _ z t) fun A i s Q E st h=>wpAny_pyIter_striter_ascii st h)
theorem aN{tg e:Expr}{wi wi':TI}(h:PI X tg e wi)(h':PI X tg e wi'):PI X tg e (fun σ H R=>wi σ H R∨wi' σ H R):=by
 intro pins s σ H R I q
 rcases q with q|q
 · exact h pins s σ H R I q
 · exact h' pins s σ H R I q
end
section
variable{P:Program}{w:World}{K:W.Frag}{mg:Str→Option Value}{base:Heap}
end
section
variable{X:Cx}{k n:Nat}{x:Str}{ps:List Str}{sp:Sp}{p pos:Pos}{e:Expr}{es:List Expr}{t:TA}{dvs:List V}
structure CompC(fsc:Scope)(N:List Str)(scope:Scope)(x:Str)(cn:List Str)(cap:List Nat):Prop where
 kind:scope.kind= .function
 names:∀y∈scope.names,y.2= .local→scope.names.lookup y.1=some .local
 cell:∀y∈scope.names,y.2≠ .cell
 own:scope.names.lookup x=some .local
 free:∀y∈scope.names,y.2= .free→fsc.names.lookup y.1=some .cell∨fsc.names.lookup y.1=some .free
 cap:cap.map (fun i=>N[i]?)=cn.map some
 capf:∀y∈cn,scope.names.lookup y=some .free
 capo:∀y∈cn,fsc.names.lookup y=some .cell∨fsc.names.lookup y=some .free
 nd:(x::cn).Nodup
theorem CompC.to{fsc:Scope}{N:List Str}{scope:Scope}{cn:List Str}{cap:List Nat}(c:CompC fsc N scope x cn cap)(e1:X.env.scope=fsc)(e2:X.N=N):CompScope X scope x cn cap:=by
 subst e1 e2
 exact⟨c.kind,c.names,c.cell,c.own,c.free,c.cap,c.capf,c.capo,c.nd⟩
end
section
variable{X:Cx}{K:W.Frag}
theorem bO(h:X.K=K):IxR X (rIx K):=by
 subst h;exact az
theorem kd(h:X.K=K)(hu:X.A.units+64<cLine):OpR X (compareOp .Eq) (Bi K):=by
 subst h;exact jN hu
end
end L2
namespace Tx
open PySem
abbrev cs(x:Str):List Nat:=x.cps.toList
theorem ext{x y:Str}(h:cs x=cs y):x=y:=PyProof.Rows.ext_toList h
def dig(c:Nat):Bool:=decide (48≤c)&&decide (c≤57)
def low(c:Nat):Bool:=decide (97≤c)&&decide (c≤122)
def val(l:List Nat):Int:=l.foldl (fun(v:Int) (c:Nat)=>v*10+((c:Int)-48)) 0
def Bk:List Nat→Option Int
 |[]=>none
 |c::r=>if(c::r).length≤60∧(c::r).all dig=true∧(r=[]∨c≠48) then some (val (c::r)) else none
def row(p:Nat→Bool)(m:Int)(x:Str):Bool:=decide (1≤x.length)&&decide ((x.length:Int)≤m)&&(cs x).all p
end Tx
namespace Tx
open PySem
def rd(neg:Bool)(b:List Nat)(o:Option (List Nat×List Nat)):Option (Int×Int):=match o with
 |none=>match Bk b with
  |none=>none
  |some a=>if neg=true∧a=0 then none else some ((if neg then-a else a),1)
 |some (A,B)=>match Bk A,Bk B with
  |some a,some d=>if d<2∨(neg=true∧a=0)∨Fr.G a d≠1 then none else some ((if neg then-a else a),d)
  |_,_=>none
end Tx
namespace L2
open PySem PySem.Spec PyProof.Rows
section
variable{X:Cx}
end
section
variable{prog:Program}{w:World}{A:Around}{E:Value→Shared→Prop}{s:Shared}{it l:Addr}{its:Array Value}
end
section
variable{X:Cx}
abbrev CZ:R2:=rI0 fun i j=> .int (i-j)
abbrev C3:R2:=rI CA fun i j=> .int (i/j)
abbrev Bl:R2:=rI CDivB fun i j=> .int (i.fdiv j)
abbrev D3:R2:=rI (fun _ j=>0<j) fun i j=> .int (i%j)
abbrev rLt:R2:=rI0 fun i j=> .bl (decide (i<j))
abbrev rLe:R2:=rI0 fun i j=> .bl (decide (i≤j))
abbrev rGt:R2:=rI0 fun i j=> .bl (decide (j<i))
abbrev D4:V→Hp→VK→Prop:=rU fun i=> .int (-i)
abbrev D5:List V→Hp→VK→Prop:=fun xs H Q=>∃i,xs=[.int i]∧Q (.int (if i<0 then-i else i)) H
abbrev D6(K:W.Frag):List V→Hp→VK→Prop:=fun xs H Q=>(∃p ys,xs=[.ref p]∧(SqL K H p ys∨SqT K H p ys)∧Q (.int ys.length) H)∨∃z,xs=[.str z]∧z.length≤sizeLine∧Q (.int z.length) H
abbrev D7(K:W.Frag):List V→Hp→VK→Prop:=fun xs H Q=>∃x T t k,xs=[x, .ty T]∧TyOf K H x t∧W.kitOne K t (.type T)=some k∧Q (.bl k) H
abbrev yI(K:W.Frag):List V→Hp→VK→Prop:=fun xs H Q=>∃p ys,xs=[.ref p]∧(SqL K H p ys∨SqT K H p ys)∧∀l,H l=none→Q (.ref l) (upd H l (.lst ys))
end
section
variable{prog:Program}{w:World}{A:Around}{E:Value→Shared→Prop}{s:Shared}{K:W.Frag}{x C:Addr}{ox:Obj}{od:Option Obj}{name:Str}
end
section
variable{X:Cx}{pins:List (Addr×Obj)}{σ:St}{H:Hp}{s:Shared}{e C dx:Addr}{d:Option Addr}{fs:List (Str×V)}{f:Str}
end
section
variable{prog:Program}{w:World}{A:Around}{E:Value→Shared→Prop}{s:Shared}{K:W.Frag}{x C:Addr}{d:Option Addr}{vs:Array Value}{sl:Array (Option Value)}
end
section
variable{prog:Program}{w:World}{M:Model}{A:Around}{E:Value→Shared→Prop}{R:Result→Shared→Prop}{h:Heap}{g:Array GenState}{d:Drawn}{t:Nat}{os:OsState}{K:W.Frag}
variable{nm q:Str}{C N:Addr}{bs bm:List Value}{hdct:Bool}{sn:List Str}{sub:List Value}{ab:Bool}{col:Option Bool}{dd:Option Addr}{k0 k1 k2 k3 k5:Option Value}{h9:List Value}
end
section
variable{X:Cx}{CX:CXT}{k:Nat}{f C:Addr}{fd:FuncData}{ps:List Str}{sp:Sp}{dvs:List V}{ds:List Value}{E:XK}{x:Str}{p pos:Pos}{e:Expr}{es:List Expr}{t:TA}
end
section
variable{prog:Program}{w:World}{A:Around}{E:Value→Shared→Prop}{s:Shared}{K:W.Frag}{x C:Addr}{ox:Obj}{od:Option Obj}{name:Str}
end
section
variable{X:Cx}
end
section
variable{prog:Program}{w:World}{A:Around}{E:Value→Shared→Prop}{h:Heap}{g:Array GenState}{d:Drawn}{t:Nat}{os:OsState}{K:W.Frag}
variable{nm q:Str}{C N:Addr}{bs bm:List Value}{hdct:Bool}{sn:List Str}{sub:List Value}{ab:Bool}{col:Option Bool}{dd:Option Addr}{k0 k1 k2 k3 k5:Option Value}{v:Value}
end
def clA(K:W.Frag)(x:Str):Addr:=match W.nsIn K mainGlobals x with
 |some (some (.ref a))=>a
 |_=>0
theorem lR{K:W.Frag}{x:Str}{a:Addr}(h:W.nsIn K mainGlobals x=some (some (.ref a))):clA K x=a:=by
 unfold clA
 rw[h]
section
variable{K:W.Frag}{C D:Addr}{cd cd':ClassData}
structure KObj(K:W.Frag)(C:Addr)(cd:ClassData):Prop where
 cls:W.clsIn K C=some cd
 type:W.typeIn K (.ref C)=some (.type "type")
 mro:∃bm,cd.mro= .ref C::bm
theorem KObj.sub(x:KObj K C cd)(v:Value):W.subIn K (.ref C) v=some (cd.mro.contains v):=by
 obtain⟨bm,hm⟩:=x.mro
 show W.mroIn K C v=_
 unfold W.mroIn
 rw[x.cls,Option.bind_some,hm]
 rfl
theorem KObj.kit(x:KObj K C cd)(y:KObj K D cd'):W.kitOne K (.ref C) (.ref D)=some (cd.mro.contains (.ref D)):=by
 unfold W.kitOne
 by_cases q:(Value.ref C==Value.ref D)=true
 · have e:C=D:=Value.ref.inj (beq_iff_eq.mp q)
   subst e
   obtain⟨bm,hm⟩:=x.mro
   rw[if_pos q,hm,List.contains_cons,q,Bool.true_or]
 · rw[if_neg q]
   unfold W.kitCls
   dsimp only
   rw[y.cls,y.type,x.sub]
   rw[if_pos (by rw[beq_self_eq_true];rfl)]
end
inductive Pts(K:W.Frag):List Str→List Addr→Prop
 |nil:Pts K [] []
 |cons {n:Str} {ns:List Str} {C:Addr} {Cs:List Addr} {cd:ClassData}:W.nsIn K mainGlobals n=some (some (.ref C))→KObj K C cd→Pts K ns Cs→Pts K (n::ns) (C::Cs)
section
variable{K:W.Frag}{C:Addr}{cd:ClassData}
theorem yJ{ms:List Str}(x:KObj K C cd){ns:List Str}{Cs:List Addr}(p:Pts K ns Cs):(Cs.map fun D=>cd.mro.contains (.ref D))=ns.map ms.contains→∀n∈ns,W.kitOne K (.ref C) (.ref (clA K n))=some (ms.contains n):=by
 induction p with
 |nil=>intro _ n h;cases h
 |cons a y p ih=>
  intro e n h
  have e':=List.cons.inj e
  rcases List.mem_cons.mp h with rfl|h
  · rw[lR a,x.kit y]
    exact congrArg some e'.1
  · exact ih e'.2 n h
theorem tG:∀f∈([]:List Str),NoAttr K C f:=fun _ h=>by cases h
theorem gZ{f:Str}{fs:List Str}(h:W.findIn K (.ref C) f=some none)(t:∀g∈fs,NoAttr K C g):∀g∈f::fs,NoAttr K C g:=fun g hg=>by
 rcases List.mem_cons.mp hg with rfl|hg
 · exact h
 · exact t g hg
end
section
variable{X:Cx}{k n:Nat}{x:Str}{ps:List Str}{sp:Sp}{p pos:Pos}{e:Expr}{es:List Expr}{t:TA}
end
def C4(σ σ':St):Prop:=σ.length=σ'.length∧∀(j:Nat) (v:V),σ[j]? =some (some v)→σ'[j]? =some (some v)
def kX(kx:Nat)(cap:List Nat)(σ:St):St:=List.replicate kx none++cap.map fun i=>(σ[i]?).join
def vX(J:It)(kx:Nat)(g:TG)(tc:TT)(te:TE)(cap:List Nat)(σ:St)(Q:VK)(H1:Hp):Prop:=∀acc,H1 acc=none→∃W:Nat→Nat→Hp→Prop,(∃m,W 0 m (upd H1 acc (.lst [])))∧∀i m H,W i m H→
 (J.stop i H∧Q (.ref acc) H)∨(J.go i H∧∀x H',J.yld i H x H'→g x (kX kx cap σ) H' fun σ2 H2=>C4 (kX kx cap σ) σ2∧tc σ2 H2 fun b H3=>if b=true then te σ2 H3 fun y H4=>∃ys,H4 acc=some (.lst ys)∧ys.length<sizeLine∧∃m',m'<m∧W (i+1) m' (upd H4 acc (.lst (ys++[y]))) else ∃m',m'<m∧W (i+1) m' H3)
def tH(wi:TI)(kx:Nat)(g:TG)(tc:TT)(te:TE)(cap:List Nat):TE:=fun σ H Q=>wi σ H fun J H1=>vX J kx g tc te cap σ Q H1
section
variable{X:Cx}{pins:List (Addr×Obj)}{σ:St}{H:Hp}{s:Shared}
structure CompScopeT(X:Cx)(scope:Scope)(xs:List Str)(cn:List Str)(cap:List Nat):Prop where
 kind:scope.kind= .function
 names:∀y∈scope.names,y.2= .local→scope.names.lookup y.1=some .local
 cell:∀y∈scope.names,y.2≠ .cell
 own:∀y∈xs,scope.names.lookup y=some .local
 free:∀y∈scope.names,y.2= .free→X.env.kindOf y.1=some .cell∨X.env.kindOf y.1=some .free
 cap:cap.map (fun i=>X.N[i]?)=cn.map some
 capf:∀y∈cn,scope.names.lookup y=some .free
 capo:∀y∈cn,X.env.scope.names.lookup y=some .cell∨X.env.scope.names.lookup y=some .free
 nd:(xs++cn).Nodup
theorem wJ{scope:Scope}{xs:List Str}{cn:List Str}{cap:List Nat}{cl:List (Str×Addr)}{C:Addr}{fp:List Addr}(S:CompScopeT X scope xs cn cap)(I:Inv X pins σ H s)(hf:∀b∈fp,kr X pins H b)(hlt:∀b∈fp,b<s.heap.objs.size)
 (hc1:∀y c,cl.lookup y=some c→X.env.cells.lookup y=some c)(hc2:∀y,(y,NameKind.free)∈scope.names→∃c,cl.lookup y=some c)(hC:s.heap.objs.size≤C):(bv X scope (xs++cn) cl C s H fp).Ok where
 mod:=I.ok.mod
 kind:=S.kind
 glob:=I.ok.glob
 blt:=I.ok.blt
 above:=hC
 inj:=fun y z c h1 h2=>I.ok.inj y z c (hc1 y c h1) (hc1 z c h2)
 has:=fun y h=>hc2 y (ic (env:=X.env) S.cell h)
 cab:=fun y c h=>by cases (show false=true from h)
 hd:=I.ok.hd
 frames:=I.ok.frames
 stk:= .inl rfl
 exf:=fun b hb=>⟨Nat.ne_of_lt (Nat.lt_of_lt_of_le (hlt b hb) hC),fun y c h=>(hf b hb).2.2.2.2.1 y c (hc1 y c h)⟩
 bs:=I.bs
 bsz:=Nat.le_trans I.ok.bsz I.sz
 noex:=fun b o e hb=>by
  rcases(hf b hb).2.2.2.1 with z|z
  · exact I.ok.noex b o e z
  · have h1:=Heap.lt_size e
    exact absurd (Nat.lt_of_lt_of_le h1 (Nat.le_trans I.ok.bsz z)) (Nat.lt_irrefl _)
 exfs:=fun b hb z=>by
  rcases List.mem_cons.mp (I.stkSub b z) with q|q
  · exact(hf b hb).2.1 q
  · exact(hf b hb).2.2.1 q
 funs:=I.stack
 frf:=I.stkFree
theorem tI{elt iter tg:Expr}{xs:List Str}{kx:Nat}{g:TG}{ifs:List Expr}{scope:Scope}{pos:Pos}{wi:TI}{tc:TT}{te:TE}(cn:List Str)(cap:List Nat)(S:CompScopeT X scope xs cn cap)(hc:X.calm=true)
 (hkx:xs.length=kx)(hg:∀cl C s₀ H₀ ex,PG (bv X scope (xs++cn) cl C s₀ H₀ ex) tg g)
 (hi:PI X tg iter wi)(hin:∀cl C s₀ H₀ ex,vV (bv X scope (xs++cn) cl C s₀ H₀ ex) ifs tc)(he:∀cl C s₀ H₀ ex,PE (bv X scope (xs++cn) cl C s₀ H₀ ex) elt te)
 (hs:∀z,foldedSetIterable iter X.env z=pure z){use:Option (Value→Sem Unit)}{Q:VK}{Q':Value→Shared→Prop}{pins:List (Addr×Obj)}{s:Shared}{σ:St}{H:Hp}(I:Inv X pins σ H s)(h:tH wi kx g tc te cap σ H Q)
 (fin:∀(d C:Addr) (H':Hp) (s':Shared) (m:_),Inv X pins σ H' s'→kr X pins H' C→s'.heap.Ns C m→Q (.ref d) H'→∀r,compPost (model X.prog X.w) X.A X.xe use Q' (.ref d) C (.ok r) s'):
 wpAny (model X.prog X.w) X.A (comprehension (.ListComp elt [⟨tg,iter,ifs,0⟩] scope pos) scope X.env (firstIterPos [⟨tg,iter,ifs,0⟩] pos) (newList []) false (firstIter [⟨tg,iter,ifs,0⟩] X.env) use) Q' X.xe s:=by
 obtain⟨cl,hclos,hc1,hc2⟩:=m5 (scope:=scope) (env:=X.env) fun y hy hk=>I.ok.has y.1 (S.free y hy hk)
 refine wpAny_comprehension_free (use:=use) rfl hs hclos S.kind S.names (thn (hi pins s σ H _ I h) fun v s1 h1=>thn h1 fun itv s2 h2=> ?_)
 obtain⟨it,fp,tn,J,H2,e,I2,T,st2,f2,q2⟩:=h2
 subst e
 have hlt:∀b∈fp,b<s2.heap.objs.size:=fun b hb=>by
  obtain⟨o,e,_⟩:=T.obj _ _ st2 b hb
  exact Heap.lt_size e
 refine wpAny_newObj_type (wpAny_newFunctionEnv S.cell (by intro y hy;simp at hy) (fun h₁ hns₁ hsb₁=> ?_) S.kind)
 dsimp only at hns₁ hsb₁ ⊢
 generalize hP:s2.heap.push {cls:= .type "list",dict:=none,data:= .seq ([]:List Value).toArray}=P2 at hns₁ hsb₁ ⊢
 have hC:P2.objs.size=s2.heap.objs.size+1:=by rw[←hP,Heap.size_push]
 have hDC:s2.heap.objs.size≠P2.objs.size:=by rw[hC];exact Nat.ne_of_lt (Nat.lt_succ_self _)
 have hCle:s2.heap.objs.size≤P2.objs.size:=by rw[hC];exact Nat.le_succ _
 have neC:∀b,b<s2.heap.objs.size→b≠P2.objs.size:=fun b hb=>by rw[hC];exact Nat.ne_of_lt (Nat.lt_succ_of_lt hb)
 have old:∀b o,s2.heap.get? b=some o→h₁.get? b=some o:=fun b o e=>hsb₁.extBut b o (neC b (Heap.lt_size e)) (Heap.get?_push_of_some _ (hP▸Heap.get?_push_of_some _ e))
 have hacc:h₁.get? s2.heap.objs.size=some {cls:= .type "list",dict:=none,data:= .seq ([]:List Value).toArray}:=hsb₁.extBut _ _ hDC (Heap.get?_push_of_some _ (hP▸Heap.get?_push_size _ rfl))
 have hD0:H2 s2.heap.objs.size=none:=I2.hok.fresh (Nat.le_refl _)
 have ok':(bv X scope (xs++cn) cl P2.objs.size s2 H2 fp).Ok:=wJ S I2 f2 hlt hc1 hc2 hCle
 obtain⟨W,⟨m0,w0⟩,turn⟩:=q2 _ hD0
 have hok1:HOk X.prog X.w (upd H2 s2.heap.objs.size (.lst [])) h₁:=I2.hok.laid old (Nat.le_refl _) ⟨Nat.zero_le _,[],_, .nil,hacc⟩
 have un1:Un (frs X.stack) fp H2 (upd H2 s2.heap.objs.size (.lst [])) s2.heap h₁:=Un.laid old (Nat.le_refl _) hD0
 have I4:∀tk,Inv (bv X scope (xs++cn) cl P2.objs.size s2 H2 fp) [] (kX kx cap σ) (upd H2 s2.heap.objs.size (.lst [])) {s2 with heap:=h₁,toks:=tk}:=fun tk=>by
  refine⟨ok',rfl,I2.bare,un1,⟨_,hns₁,fun i y v e1 e2 e3=> ?_⟩,fun y c e=> ?_, ?_,fun y c e=> ?_,fun p hp=>(nomatch hp),hok1, ?_⟩
  · by_cases hik:i<kx
    · have e2':(List.replicate kx (none:Option V)++cap.map fun i=>(σ[i]?).join)[i]? =some (some v):=e2
      rw[List.getElem?_append_left (by rw[List.length_replicate];exact hik),List.getElem?_replicate,if_pos hik] at e2'
      cases Option.some.inj e2'
    · have e1'':(xs++cn)[i]? =some y:=e1
      have e1':cn[i-kx]? =some y:=by
       rw[List.getElem?_append_right (by rw[hkx];exact Nat.le_of_not_lt hik),hkx] at e1''
       exact e1''
      have ymem:y∈cn:=List.mem_of_getElem? e1'
      obtain⟨i0,ci,ni⟩:=uG S.cap e1'
      have e2'':(List.replicate kx (none:Option V)++cap.map fun i=>(σ[i]?).join)[i]? =some (some v):=e2
      have e2':(cap.map fun i=>(σ[i]?).join)[i-kx]? =some (some v):=by
       rw[List.getElem?_append_right (by rw[List.length_replicate];exact Nat.le_of_not_lt hik),List.length_replicate] at e2''
       exact e2''
      rw[List.getElem?_map,ci] at e2'
      have e3':(σ[i0]?).join=some v:=Option.some.inj e2'
      have e4:σ[i0]? =some (some v):=by
       cases q:σ[i0]? with
       |none=>rw[q] at e3';cases e3'
       |some o=>rw[q] at e3';exact congrArg some e3'
      obtain⟨m,hn,hl⟩:=I2.loc
      have vis:Vis X.env.scope y:= .inr (S.capo y ymem)
      obtain⟨u,r,lk⟩:=hl i0 y v ni e4 vis
      refine⟨u,r, .inr ⟨bV (env:=X.env) (S.capf y ymem), ?_⟩⟩
      rcases lk with⟨kl,_⟩|⟨_,c,ec,hcell⟩
      · rcases S.capo y ymem with z|z
        · have kl':X.env.scope.names.lookup y=some .local:=kl
          rw[z] at kl';cases kl'
        · have kl':X.env.scope.names.lookup y=some .local:=kl
          rw[z] at kl';cases kl'
      · have fm:(y,NameKind.free)∈scope.names:=ic (env:=X.env) S.cell (bV (env:=X.env) (S.capf y ymem))
        obtain⟨c',ec'⟩:=hc2 y fm
        have:=hc1 y c' ec'
        rw[ec] at this
        cases this
        obtain⟨o,ho,hd⟩:=hcell
        exact⟨c,ec',o,old _ _ ho,hd⟩
  · obtain⟨v,o,ho,hd⟩:=I2.cell y c (hc1 y c e)
    exact⟨v,o,old _ _ ho,hd⟩
  · show (upd H2 s2.heap.objs.size (.lst [])) P2.objs.size=none
    rw[aR (Ne.symm hDC)]
    exact I2.hok.fresh hCle
  · obtain⟨v,o,ho,hd⟩:=I2.cell y c (hc1 y c e)
    rw[aR (Nat.ne_of_lt (Heap.lt_size ho))]
    exact I2.freeC y c (hc1 y c e)
  · show (kX kx cap σ).length=(xs++cn).length
    have:=congrArg List.length S.cap
    simp only[List.length_map] at this
    simp[kX,this,hkx]
 have stat:∀{H':Hp},(∀b∈fp,H' b=none)→∀b∈fp,kr (bv X scope (xs++cn) cl P2.objs.size s2 H2 fp) [] H' b:=fun hn b hb=>
  ⟨hn b hb,neC b (hlt b hb),ok'.exfs b hb, .inl hb,fun y c e=>(ok'.exf b hb).2 y c e,fun p hp=>(nomatch hp)⟩
 have loop:∀s₃:Shared,s₃={s2 with heap:=h₁,toks:=s2.toks+([]:List (Str×Value)).length}→
  codeAny (model X.prog X.w) X.A (.compLoop (.ListComp elt [⟨tg,iter,ifs,0⟩] scope pos) 0 (.ref it) (.ref s2.heap.objs.size) (compEnvC scope cl P2.objs.size X.env))
   (compPost (model X.prog X.w) X.A X.xe use Q' (.ref s2.heap.objs.size) P2.objs.size) s₃:=by
  rintro s₃ rfl
  refine codeAny_loop rfl (fun n s'=>∃i H',Inv (bv X scope (xs++cn) cl P2.objs.size s2 H2 fp) [] (kX kx cap σ) H' s'∧tn i s'.heap∧(∀b∈fp,H' b=none)∧W i n H') ?_ m0
   ⟨0,_,I4 _,T.keep _ _ _ st2 fun b hb o e=>old b o e,fun b hb=>by rw[aR (Nat.ne_of_lt (hlt b hb))];exact(f2 b hb).1,w0⟩
  rintro n s3 ⟨i,H3,I3,st3,fr3,w3⟩
  show wpAny _ X.A ((compTurn (.ListComp elt [⟨tg,iter,ifs,0⟩] scope pos) 0 (.ref it) (.ref s2.heap.objs.size) (compEnvC scope cl P2.objs.size X.env)).onRaise (fun x=>do noteFrame x (compEnvC scope cl P2.objs.size X.env);theTreesLotGoes x)) _ _ s3
  refine wpAny_noted ?_
  rw[compTurn_list]
  refine wpAny_bind (wpAny_standAt (wpAny_bind ?_))
  rcases turn i n H3 w3 with⟨stop,qn⟩|⟨go,step⟩
  · refine wpAny_mono (T.done (bv X scope (xs++cn) cl P2.objs.size s2 H2 fp) rfl rfl rfl hc i [] s3 _ H3 (fun _ _=>False) I3 (stat fr3) st3 stop) (fun r s4 ⟨hr,I5⟩=> ?_) fun _ _ z=>z.elim
    subst hr
    refine wpAny_pure ?_
    obtain⟨m,hn,_⟩:=id I5.loc
    have J:Inv X pins σ H3 s4:=by
     have kp:∀b o,b≠P2.objs.size→s4.heap.get? b=some o→s4.heap.get? b=some o:=fun b o hb e=>e
     have b0:=I5.base
     have sm:∀b o,s2.heap.get? b=some o→b≠P2.objs.size:=fun b o e=>neC b (Heap.lt_size e)
     refine I2.call' (s':=s4) (ch:=fp) I5.os ⟨fun b o e n hb hx=>kp _ _ (sm b o e) (b0.keep b o e n hb hx),fun b o e n hb hx=> ?_,b0.free,fun b o e hx=> ?_,b0.tups,b0.frzs,b0.tbls⟩ (fun b u e=> ?_) I5.bare
      fun b hb=>⟨(f2 b hb).2.2.2.1,(f2 b hb).2.1,(f2 b hb).2.2.2.2.1,(f2 b hb).2.2.2.2.2⟩
     · obtain⟨sl,q⟩:=b0.slot b o e n hb hx
       exact⟨sl,kp _ _ (sm b o e) q⟩
     · obtain⟨o',q⟩:=b0.there b o e hx
       exact⟨o',kp _ _ (sm b o e) q⟩
     · have hfree:H3 P2.objs.size=none:=I5.free
       refine(I5.hok b u e).stay (fun c v hc' q=>kp c v ?_ q) (fun _ q=>q) fun _ _ q=>q
       rcases hc' with z|z
       · rw[z];exact aM e hfree
       · exact aM z hfree
    have fC:kr X pins H3 P2.objs.size:=by
     have q:=I2.fpOk hCle (I2.hok.fresh hCle)
     exact⟨I5.free,q.2⟩
    exact fin _ _ _ _ m J fC hn qn _
  · refine wpAny_mono (T.item (bv X scope (xs++cn) cl P2.objs.size s2 H2 fp) rfl rfl rfl hc i [] s3 _ H3 (fun _ _=>False) I3 (stat fr3) st3 go) (fun r s4 ⟨u,hr,h4⟩=> ?_) fun _ _ z=>z.elim
    subst hr
    refine wpAny_bind (wpAny_mono h4 (fun _ s5 ⟨xv,H5,I5,r5,y5,st5,fr5⟩=> ?_) fun _ _ z=>z.elim)
    have I5':=I5.pinned (stat fr5) (T.obj _ _ st5)
    refine wpAny_bind (wpAny_mono (hg cl P2.objs.size s2 H2 fp _ s5 _ H5 xv u _ I5' r5 (step xv _ y5)) (fun _ s6 ⟨σ6,H6,I6,ks,q6⟩=> ?_) fun _ _ z=>z.elim)
    have again:∀{s7:Shared} {H7:Hp},Inv (bv X scope (xs++cn) cl P2.objs.size s2 H2 fp) ([]++lL fp s5.heap) σ6 H7 s7→(∃m',m'<n∧W (i+1) m' H7)→
     ∃m,m<n∧∃i H',Inv (bv X scope (xs++cn) cl P2.objs.size s2 H2 fp) [] (kX kx cap σ) H' s7∧tn i s7.heap∧(∀b∈fp,H' b=none)∧W i m H':=fun {s7 H7} I7 w7=>by
     obtain⟨m',hm,w7⟩:=w7
     refine⟨m',hm,i+1,H7,I7.unpinned.weak ks.1 ks.2,T.keep _ _ _ st5 fun b hb o e=>(I7.pin (b,o) (List.mem_append_right _ (List.mem_append_right _ (gf hb e)))).1,fun b hb=> ?_,w7⟩
     · obtain⟨o,e,d⟩:=T.obj _ _ st5 b hb
       exact(I7.pin (b,o) (List.mem_append_right _ (List.mem_append_right _ (gf hb e)))).2.1
    refine wpAny_bind (wpAny_mono (hin cl P2.objs.size s2 H2 fp _ s6 _ _ _ I6 q6) (fun ok s7 ⟨H7,I7,q7⟩=> ?_) fun _ _ z=>z.elim)
    cases ok with
    |false=>
     have q7':∃m',m'<n∧W (i+1) m' H7:=by simpa using q7
     exact wpAny_pure ⟨rfl,again I7 q7'⟩
    |true=>
     have q7':=(if_pos rfl).mp q7
     refine wpAny_bind (wpAny_bind (wpAny_mono (he cl P2.objs.size s2 H2 fp _ s7 _ H7 _ I7 q7') (fun yv s8 ⟨y,H8,I8,r8,ys,h8,z8,q8⟩=> ?_) fun _ _ z=>z.elim))
     refine wpAny_bind (wpAny_mono (bM (X:=bv X scope (xs++cn) cl P2.objs.size s2 H2 fp) _ s8 _ H8 (.ref s2.heap.objs.size) [y] (.ref s2.heap.objs.size) [yv] (fun _ H9=>∃m',m'<n∧W (i+1) m' H9) I8 rfl (.cons r8 .nil) ⟨_,ys,y,rfl,rfl,h8,z8,q8⟩) (fun _ s9 ⟨_,H9,I9,_,q9⟩=> ?_) fun _ _ z=>z.elim)
     exact wpAny_pure (wpAny_pure ⟨rfl,again I9 q9⟩)
 exact codeAny_compStart_list (loop _ rfl) (T.self _ 0 _ _ _ (T.keep _ _ _ st2 fun b hb o e=>old b o e) (loop _ rfl))
theorem jO{elt iter tg:Expr}{xs:List Str}{kx:Nat}{g:TG}{ifs:List Expr}{scope:Scope}{pos:Pos}{wi:TI}{tc:TT}{te:TE}(cn:List Str)(cap:List Nat)(S:CompScopeT X scope xs cn cap)(hc:X.calm=true)
 (hkx:xs.length=kx)(hg:∀cl C s₀ H₀ ex,PG (bv X scope (xs++cn) cl C s₀ H₀ ex) tg g)
 (hi:PI X tg iter wi)(hin:∀cl C s₀ H₀ ex,vV (bv X scope (xs++cn) cl C s₀ H₀ ex) ifs tc)(he:∀cl C s₀ H₀ ex,PE (bv X scope (xs++cn) cl C s₀ H₀ ex) elt te)
 (hs:∀z,foldedSetIterable iter X.env z=pure z:=by intro _;rfl):PE X (.ListComp elt [⟨tg,iter,ifs,0⟩] scope pos) (tH wi kx g tc te cap):=by
 intro pins s σ H Q I h
 rw[eval_ListComp]
 refine tI cn cap S hc hkx hg hi hin he hs I h fun d C H' s' m J fC hn qn r=>⟨m,hn,fun h' hsb=>⟨.ref d,H', ?_,rfl,qn⟩⟩
 refine J.turnedL (t':=s'.toks) (ch:=[C]) (fun b o hb e=>hsb.extBut b o (by simpa using hb) e) (fun b hb=> ?_)
 cases List.mem_singleton.mp hb
 exact fC
end
section
variable{X:Cx}{pins:List (Addr×Obj)}{σ:St}{H:Hp}{s:Shared}
def Bm(K:W.Frag):List V→Hp→VK→Prop:=fun xs H Q=>∃x c t k,xs=[x, .ref c]∧TyOf K H x t∧W.kitOne K t (.ref c)=some k∧Q (.bl k) H
theorem wK:CallR X (.builtin "isinstance") (Bm X.K):=by
 intro pins s σ H xs us Q I r h
 obtain⟨x,c,t,k,rfl,ty,e,q⟩:=h
 obtain⟨u,v,rfl,rx,rv⟩:=Vals.two r
 cases rv
 exact ou I rx ty e fun tk=>⟨.bl k,H,I.tok _,rfl,q⟩
end
structure PKd(K:W.Frag)(ns:List Str)(C:Addr)(ms fs:List Str):Prop where
 cls:Cls K C
 ca:W.findIn K (.ref C) "__class__"=some (some (.builtin "object.__class__"))
 cg:W.specialIn K (.builtin "object.__class__") "__get__"=some (some (.builtin "getset_descriptor.__get__"))
 ct:W.takesIn K (.builtin "object.__class__")=some true
 top:W.mroIn K C (.type "object")=some true
 sub:∀T:String,(Value.type T== .type "object")=false→W.subIn K (.ref C) (.type T)=some false
 kit:∀n∈ns,W.kitOne K (.ref C) (.ref (clA K n))=some (ms.contains n)
 na:∀f∈fs,NoAttr K C f
section
variable{K:W.Frag}{C:Addr}{cd:ClassData}{ns ms fs:List Str}
theorem PKd.ty{H:Hp}{a dx:Addr}{gs:List (Str×V)}(p:PKd K ns C ms fs)(e:H a=some (.ins C dx gs)):TyOf K H (.ref a) (.ref C):= .ins e p.cls p.ca p.cg p.ct p.top
theorem PKd.notT(p:PKd K ns C ms fs)(T:String)(h:(Value.type T== .type "object")=false:=by decide)(hm:W.kitMeta T=true:=by decide+kernel):W.kitOne K (.ref C) (.type T)=some false:=by
 unfold W.kitOne W.kitCls
 rw[if_neg (by intro q;cases beq_iff_eq.mp q)]
 dsimp only
 rw[if_pos hm]
 exact p.sub T h
theorem tJ{x:Str}{dd:Option Addr}{sl:Array (Option Value)}{Cs:List Addr}(hn:W.nsIn K mainGlobals x=some (some (.ref C)))(l:K.lookup C=some ⟨.type "type",dd, .cls cd,sl⟩)(hm:cd.mro=[.ref C, .type "object"])(p:Pts K ns Cs)(e:(Cs.map fun D=>cd.mro.contains (.ref D))=ns.map ms.contains)
 (pg:W.plainGet K C Str.empty=true)(hd:W.hasDictIn K C=true)(po:W.plainOver K C=true)(sa:W.findIn K (.ref C) "__setattr__"=some (some (.builtin "object.__setattr__")))
 (ca:W.findIn K (.ref C) "__class__"=some (some (.builtin "object.__class__")))(cg:W.specialIn K (.builtin "object.__class__") "__get__"=some (some (.builtin "getset_descriptor.__get__")))(ct:W.takesIn K (.builtin "object.__class__")=some true)
 (na:∀f∈fs,NoAttr K C f):PKd K ns (clA K x) ms fs:=by
 rw[lR hn]
 have hc:W.clsIn K C=some cd:=by
  unfold W.clsIn
  rw[l]
 have ht:W.typeIn K (.ref C)=some (.type "type"):=by
  show (K.lookup C).map (·.cls)=_
  rw[l]
  rfl
 have o:KObj K C cd:=⟨hc,ht,_,hm⟩
 refine⟨⟨pg,hd,po,sa⟩,ca,cg,ct, ?_,fun T hT=> ?_,yJ o p e,na⟩
 · have:=o.sub (.type "object")
   rw[hm] at this
   exact this.trans (by rw[List.contains_cons,List.contains_cons,beq_self_eq_true,Bool.true_or,Bool.or_true])
 · rw[o.sub,hm,List.contains_cons,List.contains_cons,hT,Bool.false_or,List.contains_nil,Bool.or_false]
   rfl
theorem pC{dd:Option Addr}{sl:Array (Option Value)}(l:K.lookup C=some ⟨.type "type",dd, .cls cd,sl⟩)(hm:cd.mro=[.ref C, .type "object"]):KObj K C cd:=⟨by unfold W.clsIn;rw[l],by show (K.lookup C).map (·.cls)=_;rw[l];rfl,_,hm⟩
theorem wL{x:Str}{f:Addr}(hn:W.nsIn K mainGlobals x=some (some (.ref C)))(mi:W.makesIn K C=true)(hi:W.findIn K (.ref C) "__init__"=some (some (.ref f)))(hf:W.isFn K (.ref f)=true)(kp:W.keepIn K (.ref C)=true):Mk K (clA K x) f:=by
 rw[lR hn]
 exact⟨mi,hi,hf,kp⟩
end
structure GotP(P:Program)(w:World)(K:W.Frag)(mg:Str→Option Value)(base:Heap)(k:Nat)(x:Str)(ps:List Str)(sp:Sp):Prop where
 ex:∃f fd,Mk K (clA K x) f∧FnOk P w K mg base CX0 k f fd ps sp∧Binds K fd ps []∧mg x=some (.ref (clA K x))
section
variable{X:Cx}{k n:Nat}{x:Str}{ps:List Str}{sp:Sp}{p pos:Pos}{e:Expr}{es:List Expr}{t:TA}
theorem pD(g:GotP X.prog X.w X.K X.mg X.base k x ps sp)(hr:Room n X.A)(hk:k+1≤n)(hg:Gl X x)(ha:PA X (e::es) t)(hdb:(x==("__debug__":Str))=false:=by decide)
 (he:starEach (e::es) X.env=(false,eval e X.env)::starEach es X.env:=by rfl)(hpl:(backTo pos (starEach es X.env)).any (·.1)=false:=by rfl):
 PE X (.Call (.Name x p) (e::es) [] pos) (wB (clA X.K x) sp [] E0 t):=by
 obtain⟨f,fd,M,F,hb,hm⟩:=g.ex
 exact yu M F (hr.mono hk) hg hm hb .nil z3 ha hdb he hpl
end
structure CompCT(fsc:Scope)(N:List Str)(scope:Scope)(xs:List Str)(cn:List Str)(cap:List Nat):Prop where
 kind:scope.kind= .function
 names:∀y∈scope.names,y.2= .local→scope.names.lookup y.1=some .local
 cell:∀y∈scope.names,y.2≠ .cell
 own:∀y∈xs,scope.names.lookup y=some .local
 free:∀y∈scope.names,y.2= .free→fsc.names.lookup y.1=some .cell∨fsc.names.lookup y.1=some .free
 cap:cap.map (fun i=>N[i]?)=cn.map some
 capf:∀y∈cn,scope.names.lookup y=some .free
 capo:∀y∈cn,fsc.names.lookup y=some .cell∨fsc.names.lookup y=some .free
 nd:(xs++cn).Nodup
theorem CompCT.to{X:Cx}{fsc:Scope}{N:List Str}{scope:Scope}{xs cn:List Str}{cap:List Nat}(c:CompCT fsc N scope xs cn cap)(e1:X.env.scope=fsc)(e2:X.N=N):CompScopeT X scope xs cn cap:=by
 subst e1 e2
 exact⟨c.kind,c.names,c.cell,c.own,c.free,c.cap,c.capf,c.capo,c.nd⟩
theorem dc{X:Cx}{scope:Scope}{xs cn:List Str}{cap:List Nat}{cl:List (Str×Addr)}{C:Addr}{s₀:Shared}{H₀:Hp}{ex:List Addr}{y:Str}{pos:Pos}(S:CompScopeT X scope xs cn cap)(i:Nat)(hi:(xs++cn)[i]? =some y)(hm:y∈xs):
 PG (bv X scope (xs++cn) cl C s₀ H₀ ex) (.Name y pos) (jI i):=aF (i:=i) S.nd hi (.inl (lookup_relabel_local (env:=X.env) (S.own y hm))) (.inr (lookup_relabel_local (env:=X.env) (S.own y hm)))
section
variable{X:Cx}{K:W.Frag}{e:Expr}{f:Str}{pos:Pos}{ta:TE}
theorem yK(h:X.K=K)(he:PE X e ta)(hb:attributeBase e f X.env (eval e X.env)=eval e X.env):PE X (.Attribute e f pos) (AY K ta f):=by
 subst h;exact jg he hb
theorem vY(h:X.K=K):CallR X (.builtin "isinstance") (Bm K):=by
 subst h;exact wK
theorem kY{es:List Expr}{k:Nat}{t:TGs}{n:Nat}(h:X.K=K)(hc:X.calm=true)(hs:PGs X es t)
 (hn:(assignEach es X.env).length=n:=by rfl)(hst:(assignEach es X.env).findIdx? (·.1)=none:=by rfl):PG X (.Tuple es k pos) (yo K n t):=by
 subst h;exact iM hc hs hn hst
theorem Bn{x:Str}(h:X.K=K)(hg:Gl X x)(hm:X.mg x=some (.ref (clA K x)))(hd:(x==("__debug__":Str))=false:=by decide):PE X (.Name x pos) (tC (.ref (clA K x))):=ym hg hm rfl hd
end
section
variable{X:Cx}
def C5(K:W.Frag):List V→Hp→VK→Prop:=fun xs H Q=>∃l ns,xs=[.ref l]∧SqL K H l (List.map V.int ns)∧Q (.int ns.sum) H
theorem n5(hc:X.calm=true):CallR X (.builtin "sum") (C5 X.K):=by
 intro pins s σ H xs us Q I r h
 obtain⟨l,ns,rfl,hS,q⟩:=h
 obtain⟨u,rfl,ru⟩:=r.one
 cases ru
 obtain⟨its,rv,pl,hz⟩:=I.list hS
 have hi:=tE rv
 obtain⟨ys,hx⟩:=hi.allInts.items
 have hl':s.heap.IsList l (intItems ys):=hx▸pl.isList
 refine sum_intListG (I.ok.hd hc) hl' fun h' tk t' hk=> ?_
 have e1:ns=ys.toList.map (·.1):=by
  rw[←nums_intItems,←hx]
  exact(show numsOf its.toArray.toList=ns from hi.numsOf).symm
 have e2:preSum (numAt ys) ys.size=ns.sum:=by
  rw[preSum_eq,List.take_of_length_le (by simp),e1]
 rw[e2]
 exact⟨.int _,H,I.kept hk,⟨_,rfl⟩,q⟩
end
theorem C6:bootBuiltins "sum"=some (.builtin "sum"):=by decide+kernel
end L2
namespace L2
open PySem PySem.Spec PyProof.Rows
section
variable{prog:Program}{w:World}{A:Around}{E:Value→Shared→Prop}{s:Shared}
end
section
variable{prog:Program}{w:World}{A:Around}{E:Value→Shared→Prop}{s:Shared}
end
section
variable{X:Cx}{pins:List (Addr×Obj)}{σ:St}{H:Hp}{s:Shared}
end
section
variable{X:Cx}
def wM(K:W.Frag):R2:=fun x y H Q=>∃a b ys,x= .ref a∧y= .ref b∧SqT K H a []∧SqT K H b ys∧Q (.ref b) H
theorem wN:OpR X (binaryOp .Add) (wM X.K):=by
 intro pins s σ H x y v u Q I rx ry h
 obtain⟨a,b,ys,rfl,rfl,ha,hb,q⟩:=h
 cases rx
 cases ry
 obtain⟨its,r1,p1,_⟩:=I.tuple ha
 obtain⟨its2,r2,p2,_⟩:=I.tuple hb
 have hv:its=[]:=r1.nil_iff.mpr rfl
 obtain⟨⟨cls,dd,data,sl⟩,ho,hc,n,hd⟩:=id p1
 obtain⟨⟨cls2,dd2,data2,sl2⟩,ho2,hc2,n2,hd2⟩:=id p2
 simp only at hc hd hc2 hd2
 subst hc hd hc2 hd2
 exact concat_meets ⟨_,ho,rfl⟩ ⟨_,ho2,rfl⟩ noFill_tuple_add seq_tuple_add PySem.F.slot_tuple_add PySem.F.entry_tuple_add (PySem.F.args_tuple_add_2 _ _)
  (tuple_addW0 a b its.toArray its2.toArray n n2 dd dd2 sl sl2 (by simp[hv])) ⟨ho,ho2,⟨.ref b,H,I,rfl,q⟩⟩
def wO(K:W.Frag):R2:=fun x y H Q=>z5 x y H Q∨(zZ K x y H Q∨wM K x y H Q)
theorem aL:OpR X (binaryOp .Add) (wO X.K):=yE.or (yw.or wN)
theorem m7{K:W.Frag}(h:X.K=K):OpR X (binaryOp .Add) (wO K):=h▸aL
abbrev C7:R2:=fun x y H Q=>(y= .non∧Q (.bl (decide (x= .non))) H)∨∃b,y= .bl b∧Q (.bl (decide (x= .bl b))) H
theorem Bo:OpR X (compareOp .Is) (fun x y H Q=>∃b,y= .bl b∧Q (.bl (decide (x= .bl b))) H):=by
 intro pins s σ H x y v u Q I rx ry h
 obtain⟨b,rfl,q⟩:=h
 cases ry
 have fin:∀v,compareOp .Is v (.bool b)=pure (.bool (v== .bool b))→(v== .bool b)=decide (x= .bl b)→wpAny (model X.prog X.w) X.A (compareOp .Is v (.bool b)) (EP X pins σ Q) X.xe s:=fun v e1 e2=>by
  rw[e1]
  exact wpAny_pure (bt I q e2.symm)
 cases x<;>first
  |(cases rx;exact fin _ rfl (by first|rfl|(rename_i c;cases c<;>cases b<;>rfl)))
  |(obtain⟨t,rfl⟩:=rx;exact fin _ rfl rfl)
theorem lU:OpR X (compareOp .Is) C7:=AV.or Bo
end
section
variable{prog:Program}{w:World}{A:Around}{E:Value→Shared→Prop}{s:Shared}{it l:Addr}{its:Array Value}
end
section
variable{κ:Type}[DecidableEq κ]
def kZ(kvs:List (κ×V))(k:κ):Option V:=(kvs.find? fun kv=>decide (kv.1=k)).map (·.2)
def lb(kvs:List (κ×V))(k:κ)(v:V):List (κ×V):=
 if(kvs.any fun kv=>decide (kv.1=k))=true then kvs.map (fun kv=>if kv.1=k then(kv.1,v) else kv) else kvs++[(k,v)]
theorem ld{p:κ×V}{r:List (κ×V)}{k:κ}(e:p.1=k):kZ (p::r) k=some p.2:=by simp[kZ,List.find?_cons,e]
theorem lg{p:κ×V}{r:List (κ×V)}{k:κ}(e:¬p.1=k):kZ (p::r) k=kZ r k:=by simp[kZ,List.find?_cons,e]
theorem rc(k:κ):∀kvs:List (κ×V),(kvs.any fun kv=>decide (kv.1=k))=(kZ kvs k).isSome
 |[]=>rfl
 |p::r=>by
  rw[List.any_cons]
  by_cases e:p.1=k
  · simp only[ld e,decide_eq_true e,Bool.true_or,Option.isSome_some]
  · rw[lg e,decide_eq_false e,Bool.false_or];exact rc k r
theorem mF(kvs:List (κ×V))(k:κ)(v:V):(lb kvs k v).length≤kvs.length+1:=by
 unfold lb
 split
 · rw[List.length_map];omega
 · rw[List.length_append,List.length_cons,List.length_nil];omega
theorem RelO.isSome_eq{o:Option V}{u:Option Value}(r:RelO o u):o.isSome=u.isSome:=by
 cases o with
 |none=>cases u with
  |none=>rfl
  |some _=>exact(show False from r).elim
 |some _=>cases u with
  |none=>exact(show False from r).elim
  |some _=>rfl
theorem RelO.getD{o:Option V}{u:Option Value}{d:V}{d':Value}(r:RelO o u)(rd:RelV d d'):RelV (o.getD d) (u.getD d'):=by
 cases o with
 |none=>cases u with
  |none=>exact rd
  |some _=>exact(show False from r).elim
 |some _=>cases u with
  |none=>exact(show False from r).elim
  |some _=>exact r
theorem KV.val{kvs:List (κ×V)}{vs:List (κ×Value)}(r:KV kvs vs)(k:κ):RelO (kZ kvs k) (valueAt vs k):=by
 unfold KV at r
 induction r with
 |nil=>exact True.intro
 | @cons p q ps qs h t ih=>
   obtain⟨h1,h2⟩:=h
   by_cases e:p.1=k
   · have e':q.1=k:=h1.symm.trans e
     have b:valueAt (q::qs) k=some q.2:=by simp[valueAt,List.find?_cons,e']
     rw[ld e,b];exact h2
   · have e':¬q.1=k:=fun z=>e (h1.trans z)
     have b:valueAt (q::qs) k=valueAt qs k:=by simp[valueAt,List.find?_cons,e']
     rw[lg e,b];exact ih
theorem KV.any{kvs:List (κ×V)}{vs:List (κ×Value)}(r:KV kvs vs)(k:κ):(kvs.any fun kv=>decide (kv.1=k))=vs.any fun kv=>decide (kv.1=k):=by
 unfold KV at r
 induction r with
 |nil=>rfl
 |cons h t ih=>rw[List.any_cons,List.any_cons,ih,h.1]
theorem KV.repl{kvs:List (κ×V)}{vs:List (κ×Value)}(r:KV kvs vs)(k:κ){y:V}{u:Value}(ry:RelV y u):
 KV (kvs.map fun kv=>if kv.1=k then(kv.1,y) else kv) (vs.map fun kv=>if kv.1=k then(kv.1,u) else kv):=by
 unfold KV at r ⊢
 induction r with
 |nil=>exact .nil
 | @cons p q ps qs h t ih=>
   rw[List.map_cons,List.map_cons]
   refine .cons ?_ ih
   obtain⟨h1,h2⟩:=h
   by_cases e:p.1=k
   · rw[if_pos e,if_pos (h1.symm.trans e)];exact⟨h1,ry⟩
   · rw[if_neg e,if_neg (fun z=>e (h1.trans z))];exact⟨h1,h2⟩
theorem KV.put{kvs:List (κ×V)}{vs:List (κ×Value)}(r:KV kvs vs)(k:κ){y:V}{u:Value}(ry:RelV y u):KV (lb kvs k y) (stored vs k u):=by
 unfold lb stored
 rw[r.any k]
 by_cases e:(vs.any fun kv=>decide (kv.1=k))=true
 · rw[if_pos e,if_pos e];exact r.repl k ry
 · rw[if_neg e,if_neg e];exact Paired.snoc r ⟨rfl,ry⟩
theorem KV.keys{kvs:List (κ×V)}{vs:List (κ×Value)}(r:KV kvs vs):kvs.map (·.1)=vs.map (·.1):=by
 unfold KV at r
 induction r with
 |nil=>rfl
 |cons h t ih=>rw[List.map_cons,List.map_cons,ih,h.1]
theorem KV.length{kvs:List (κ×V)}{vs:List (κ×Value)}(r:KV kvs vs):kvs.length=vs.length:=Paired.length r
end
theorem uH{P:Program}{w:World}{k:Key}{u:Value}(r:RelV (kV k) u):(cB P w).is k u=true:=by
 cases k with
 |inl i=>obtain⟨t,e⟩:=(show ∃t,u=Value.int i t from r);subst e;exact qM P w i t
 |inr x=>obtain⟨t,e⟩:=(show ∃t,u=Value.str x t from r);subst e;exact qN P w x t
theorem oG{P:Program}{w:World}:∀{ks:List Key} {us:List Value},Vals (ks.map kV) us→ItemsAre (cB P w) ks us
 |[],_,r=>by rw[List.map_nil] at r;cases r;exact .nil
 |k::ks,_,r=>by
  rw[List.map_cons] at r
  cases r with
  |cons h t=>exact .cons (uH h) (oG t)
abbrev KT(H:Hp):List (List Key×V)→List (List Key×Addr×Value)→Prop:=Paired fun p q=>p.1=q.1∧H q.2.1=some (.tup (p.1.map kV))∧RelV p.2 q.2.2
theorem KT.val{H:Hp}{kvs:List (List Key×V)}{xs:List (List Key×Addr×Value)}(r:KT H kvs xs)(k:List Key):RelO (kZ kvs k) ((atKey xs k).map (·.2)):=by
 induction r with
 |nil=>exact True.intro
 | @cons p q ps qs h t ih=>
   obtain⟨h1,_,h2⟩:=h
   by_cases e:p.1=k
   · have e':q.1=k:=h1.symm.trans e
     have b:atKey (q::qs) k=some q.2:=by simp[atKey,List.find?_cons,e']
     rw[ld e,b];exact h2
   · have e':¬q.1=k:=fun z=>e (h1.trans z)
     have b:atKey (q::qs) k=atKey qs k:=by simp[atKey,List.find?_cons,e']
     rw[lg e,b];exact ih
theorem KT.repl{H:Hp}{kvs:List (List Key×V)}{xs:List (List Key×Addr×Value)}(r:KT H kvs xs)(k:List Key){y:V}{u:Value}(ry:RelV y u):
 KT H (kvs.map fun kv=>if kv.1=k then(kv.1,y) else kv) (xs.map (putAt k u)):=by
 induction r with
 |nil=>exact .nil
 | @cons p q ps qs h t ih=>
   rw[List.map_cons,List.map_cons]
   refine .cons ?_ ih
   obtain⟨h1,h2,h3⟩:=h
   unfold putAt
   by_cases e:p.1=k
   · rw[if_pos e,if_pos (h1.symm.trans e)];exact⟨h1,h2,ry⟩
   · rw[if_neg e,if_neg (fun z=>e (h1.trans z))];exact⟨h1,h2,h3⟩
theorem KT.put{H:Hp}{kvs:List (List Key×V)}{xs:List (List Key×Addr×Value)}(r:KT H kvs xs)(k:List Key){b:Addr}{y:V}{u:Value}(hb:H b=some (.tup (k.map kV)))(ry:RelV y u):
 KT H (lb kvs k y) (storedH xs k b u):=by
 have e:(kvs.any fun kv=>decide (kv.1=k))=(atKey xs k).isSome:=by
  rw[rc,(r.val k).isSome_eq,Option.isSome_map]
 unfold lb storedH
 rw[e]
 by_cases q:(atKey xs k).isSome=true
 · rw[if_pos q,if_pos q];exact r.repl k ry
 · rw[if_neg q,if_neg q];exact Paired.snoc r ⟨rfl,hb,ry⟩
theorem KT.keeps{H H':Hp}{kvs:List (List Key×V)}{xs:List (List Key×Addr×Value)}(r:KT H kvs xs)(ht:∀b ys,H b=some (.tup ys)→H' b=some (.tup ys)):KT H' kvs xs:=
 Paired.mapP r fun _ _ z=>⟨z.1,ht _ _ z.2.1,z.2.2⟩
section
variable{P:Program}{w:World}{H:Hp}{h:Heap}{a:Addr}
theorem Ac{u:HO}(ok:HOk P w H h)(e:Rd H a u):ObjOk P w H h a u:=e.ok ok
theorem re{kvs:List (Key×V)}(ok:HOk P w H h)(e:Rd H a (.dK kvs)):kvs.length≤sizeLine∧(a==sysModules)=false∧∃vs,KV kvs vs∧h.DictOf (cB P w) a vs:=
 show ObjOk P w H h a (.dK kvs) from Ac ok e
theorem C8{kvs:List (Key×V)}(ok:HOk P w H h)(e:H a=some (.dK kvs)):kvs.length≤sizeLine∧(a==sysModules)=false∧∃vs,KV kvs vs∧h.DictOf (cB P w) a vs:=re ok (.inl e)
theorem pE{ks:List Key}(ok:HOk P w H h)(e:H a=some (.tup (ks.map kV))):(tupleKind (cB P w)).is h ks a:=by
 obtain⟨_,its,r,o,h1,h2,n,h3⟩:=(show ObjOk P w H h a (.tup (ks.map kV)) from ok a _ e)
 exact⟨o,its.toArray,n,h1,h2,h3,by simpa using oG r⟩
theorem rg{kvs:List (List Key×V)}(ok:HOk P w H h)(e:Rd H a (.dT kvs)):kvs.length≤sizeLine∧(a==sysModules)=false∧
 ∃xs,KT H kvs xs∧h.DictOfH (tupleKind (cB P w)) a xs:=by
 obtain⟨z,y,xs,r,o,es,ep,h1,h2,h3,h4,h5⟩:=(show ObjOk P w H h a (.dT kvs) from Ac ok e)
 refine⟨z,y,xs,r,o,es,ep,h1,h2,h3,h4,fun x hx=> ?_,h5⟩
 have all:∀{l:List (List Key×V)} {m:List (List Key×Addr×Value)},KT H l m→∀x∈m,(tupleKind (cB P w)).is h x.1 x.2.1:=by
  intro l m q
  induction q with
  |nil=>intro x hx;exact nomatch hx
  | @cons p q ps qs hq t ih=>
    intro x hx
    rcases List.mem_cons.mp hx with e|hx
    · subst e
      exact pE ok (by rw[←hq.1];exact hq.2.1)
    · exact ih x hx
 exact all r x hx
theorem C9{kvs:List (List Key×V)}(ok:HOk P w H h)(e:H a=some (.dT kvs)):kvs.length≤sizeLine∧(a==sysModules)=false∧
 ∃xs,KT H kvs xs∧h.DictOfH (tupleKind (cB P w)) a xs:=rg ok (.inl e)
end
def DGet(H:Hp)(a:Addr)(y:V)(r:Option V):Prop:=
 (∃kvs k,Rd H a (.dK kvs)∧y=kV k∧r=kZ kvs k)∨∃kvs k b,Rd H a (.dT kvs)∧y= .ref b∧H b=some (.tup (k.map kV))∧r=kZ kvs k
def DPut(H:Hp)(a:Addr)(y v:V)(H':Hp):Prop:=
 (∃kvs k,H a=some (.dK kvs)∧y=kV k∧kvs.length<sizeLine∧H'=upd H a (.dK (lb kvs k v)))∨
 ∃kvs k b,H a=some (.dT kvs)∧y= .ref b∧H b=some (.tup (k.map kV))∧kvs.length<sizeLine∧H'=upd H a (.dT (lb kvs k v))
theorem DGet.k{H:Hp}{a:Addr}{kvs:List (Key×V)}{k:Key}(e:H a=some (.dK kvs)):DGet H a (kV k) (kZ kvs k):= .inl ⟨kvs,k, .inl e,rfl,rfl⟩
theorem DGet.t{H:Hp}{a b:Addr}{kvs:List (List Key×V)}{k:List Key}(e:H a=some (.dT kvs))(eb:H b=some (.tup (k.map kV))):DGet H a (.ref b) (kZ kvs k):= .inr ⟨kvs,k,b, .inl e,rfl,eb,rfl⟩
theorem DPut.k{H:Hp}{a:Addr}{kvs:List (Key×V)}{k:Key}{v:V}(e:H a=some (.dK kvs))(hl:kvs.length<sizeLine):DPut H a (kV k) v (upd H a (.dK (lb kvs k v))):= .inl ⟨kvs,k,e,rfl,hl,rfl⟩
theorem DPut.t{H:Hp}{a b:Addr}{kvs:List (List Key×V)}{k:List Key}{v:V}(e:H a=some (.dT kvs))(eb:H b=some (.tup (k.map kV)))(hl:kvs.length<sizeLine):
 DPut H a (.ref b) v (upd H a (.dT (lb kvs k v))):= .inr ⟨kvs,k,b,e,rfl,eb,hl,rfl⟩
section
variable{X:Cx}{pins:List (Addr×Obj)}{σ:St}{H:Hp}{s:Shared}{a:Addr}{y v:V}{u r:Value}{o:Option V}{A:Around}{E:Value→Shared→Prop}
theorem Inv.big(I:Inv X pins σ H s):sysModules<s.heap.objs.size:=by
 have h:mainGlobals<s.heap.objs.size:=(I.mod.glob.keeps I.bk).lt
 exact Nat.lt_trans (by decide) h
theorem vZ{Q:Value→Shared→Prop}(hu:A.units+1<cLine)(I:Inv X pins σ H s)(g:DGet H a y (some v))(ry:RelV y u)(h:∀w' s',Inv X pins σ H s'→RelV v w'→Q w' s'):
 wpAny (model X.prog X.w) A (getItem (.ref a) u) Q E s:=by
 rcases g with⟨kvs,k,e,ey,l⟩|⟨kvs,k,b,e,ey,eb,l⟩
 · subst ey
   obtain⟨z,hd,vs,rel,dd⟩:=re I.hok e
   obtain⟨w',hw,rw'⟩:=RelO.some_of (v:=v) (o:=valueAt vs k) (by rw[l];exact rel.val k)
   exact wpAny_getItem_of (uH ry) dd.mapOf hw (h w' _ (I.tok _) rw')
 · subst ey
   cases (show u=Value.ref b from ry)
   obtain⟨z,hd,xs,rel,dd⟩:=rg I.hok e
   obtain⟨w',hw,rw'⟩:=RelO.some_of (v:=v) (o:=(atKey xs k).map (·.2)) (by rw[l];exact rel.val k)
   obtain⟨p,hp,hp2⟩:=Option.map_eq_some_iff.mp hw
   refine wpAny_getItem_heap (tupleKind_room_in1 hu) (pE I.hok eb) dd hp ?_
   rw[hp2]
   exact h w' _ (I.tok _) rw'
theorem uI{h':Heap}{t':Nat}{ob:HO}(I:Inv X pins σ H s)(mu:Mut (H a))(hs:Heap.SameBut a s.heap h')(he:∃q,h'.get? a=some q)(new:ObjOk X.prog X.w (upd H a ob) h' a ob):
 Inv X pins σ (upd H a ob) {s with heap:=h',toks:=t'}:=
 I.write (x:=a) (e:=a) mu (.inl rfl) (fun b q hb z=>(hs.2 b hb).trans z) he new
theorem Bp{P:Program}{w:World}{H':Hp}{h':Heap}{kvs:List (Key×V)}{vs:List (Key×Value)}(z:kvs.length≤sizeLine)(hd:(a==sysModules)=false)(rel:KV kvs vs)(dd:h'.DictOf (cB P w) a vs):
 ObjOk P w H' h' a (.dK kvs):=⟨z,hd,vs,rel,dd⟩
theorem v0{H':Hp}{Q:Unit→Shared→Prop}(hu:A.units+1<cLine)(I:Inv X pins σ H s)(g:DPut H a y v H')(ry:RelV y u)(rv:RelV v r)(h:∀s',Inv X pins σ H' s'→Q () s'):
 wpAny (model X.prog X.w) A (setItem (.ref a) u r) Q E s:=by
 rcases g with⟨kvs,k,e,ey,l,eH⟩|⟨kvs,k,b,e,ey,eb,l,eH⟩
 · subst ey eH
   obtain⟨z,hd,vs,rel,dd⟩:=C8 I.hok e
   have hz:vs.length≤sizeLine:=by rw[←rel.length];exact z
   have hl:(lb kvs k v).length≤sizeLine:=by have:=mF kvs k v;omega
   refine wpAny_setItem_pairs (hsz:=hz) (uH ry) dd fun h' dd' hs=>h _ ?_
   have he:∃q,h'.get? a=some q:=let⟨q,_,_,hq,_⟩:=dd';⟨q,hq⟩
   exact uI I (by rw[e];exact True.intro) hs he (Bp hl hd (rel.put k rv) dd')
 · subst ey eH
   cases (show u=Value.ref b from ry)
   obtain⟨z,hd,xs,rel,dd⟩:=C9 I.hok e
   have hz:xs.length≤sizeLine:=by rw[←Paired.length rel];exact z
   have hl:(lb kvs k v).length≤sizeLine:=by have:=mF kvs k v;omega
   refine wpAny_setItem_heap (hsz:=hz) (tupleKind_room_in1 hu) (pE I.hok eb) dd fun h' dd' hs=>h _ ?_
   obtain⟨q,es,ep,hq,h2,h3,h4,_,h5⟩:=dd'
   refine uI I (by rw[e];exact True.intro) hs ⟨q,hq⟩ ⟨hl,hd,_,(rel.put k eb rv).keeps fun c ys ec=> ?_,q,es,ep,hq,h2,h3,h4,h5⟩
   rw[aR (Cp ec e (fun z=>nomatch z))]
   exact ec
end
section
variable{X:Cx}{pins:List (Addr×Obj)}{σ:St}{H:Hp}{s:Shared}{a:Addr}{kvs:List (Key×V)}{k:Key}{u:Value}{A:Around}{E:Value→Shared→Prop}
end
def Da(i:Expr):Prop:=∀ov iv,subscripted i false ov iv=operate [ov,iv] (getItem ov iv)
theorem yL{prog:Program}{w:World}{A:Around}{E:Value→Shared→Prop}{s:Shared}{env:Env}{value slice:Expr}{pos:Pos}{T id:String}{Q:Value→Shared→Prop}
 (hl:typeLookup (.type T) "__getitem__"=pure (some (.builtin id)))(hs:Da slice)
 (h:wpAny (model prog w) A (eval value env) (fun o s₁=>wpAny (model prog w) A (eval slice env) (fun i s₂=>s₂.TypeIs o T∧wpAny (model prog w) A (getItem o i) Q E s₂) E s₁) E s):
 wpAny (model prog w) A (eval (.Subscript value slice pos) env) Q E s:=by
 refine Subscript_ (wpAny_mono h (fun o s₁ h₁=>wpAny_mono h₁ (fun i s₂ h₂=> ?_) fun _ _ x=>x) fun _ _ x=>x)
 obtain⟨hT,h₂⟩:=h₂
 unfold subscriptTail
 refine wpAny_bind ?_
 rw[getitemInPython_of_ne hT.not_modules]
 refine wpAny_bind (wpAny_specialOf hT hl ?_)
 have fin:wpAny (model prog w) A (subscripted slice false o i) (fun r s₃=>wpAny (model prog w) A (letTemporaryGo value o r>>=fun _=>pure r) Q E s₃) E s₂:=by
  rw[hs o i]
  exact wpAny_operating (wpAny_mono h₂ (fun r s₃ h₃=>wpAny_bind (wpAny_letTemporaryGo (wpAny_pure h₃))) fun _ _ x=>x)
 first
  |exact wpAny_pure (wpAny_bind fin)
  |exact wpAny_bind (wpAny_pure (wpAny_bind fin))
  |exact wpAny_bind fin
theorem rh{X:Cx}{pins:List (Addr×Obj)}{σ:St}{H:Hp}{s:Shared}{a:Addr}{y:V}{o:Option V}(I:Inv X pins σ H s)(g:DGet H a y o):s.TypeIs (.ref a) "dict":=by
 rcases g with⟨kvs,k,e,_,_⟩|⟨kvs,k,b,e,_,_,_⟩
 · obtain⟨_,_,vs,_,dd⟩:=re I.hok e
   exact dd.typeIs
 · obtain⟨_,_,xs,_,dd⟩:=rg I.hok e
   exact dd.typeIs
def Ad(td ty:TE):TE:=fun σ H Q=>td σ H fun x H1=>ty σ H1 fun y H2=>∃a v,x= .ref a∧DGet H2 a y (some v)∧Q v H2
def Ae(td ty tv:TE):TS:=fun D σ H=>tv σ H fun v H1=>td σ H1 fun x H2=>ty σ H2 fun y H3=>∃a H4,x= .ref a∧DPut H3 a y v H4∧D.nx σ H4
section
variable{X:Cx}{o i e value:Expr}{pos pos' tpos:Pos}{td ty tv:TE}
theorem yM(hu:X.A.units+1<cLine)(ho:PE X o td)(hi:PE X i ty)(hs:Da i):PE X (.Subscript o i pos) (Ad td ty):=by
 intro pins s σ H Q I h
 refine yL PySem.F.slot_dict_getitem.lookup hs (thn (ho pins s σ H _ I h) fun u s1 ⟨x,H1,I1,rx,q1⟩=>thn (hi pins s1 σ H1 _ I1 q1) fun iv s2 ⟨y,H2,I2,ry,a,v,ex,g,q2⟩=> ?_)
 subst ex
 obtain rfl:u=Value.ref a:=rx
 exact⟨rh I2 g,vZ hu I2 g ry fun w' s3 I3 rw'=>⟨v,H2,I3,rw',q2⟩⟩
theorem uJ(hu:X.A.units+1<cLine)(ho:PE X o td)(hi:PE X i ty)(hv:PE X value tv)(hs:swapsWith value (some (.Subscript o i pos')) pos.line X.env=pure false):
 PS X (.Assign [.Subscript o i pos'] value pos) (Ae td ty tv):=by
 intro pins s σ H D I h
 refine wpAny_Assign_Subscript (thn (hv pins s σ H _ I h) fun r s1 ⟨v,H1,I1,rv,q1⟩=>thn (ho pins s1 σ H1 _ I1 q1) fun u s2 ⟨x,H2,I2,rx,q2⟩=>thn (hi pins s2 σ H2 _ I2 q2) fun iv s3 ⟨y,H3,I3,ry,a,H4,ex,g,q3⟩=> ?_) hs
 subst ex
 obtain rfl:u=Value.ref a:=rx
 exact v0 hu I3 g ry rv fun s4 I4=>⟨σ,H4,I4,q3⟩
end
theorem wP{P:Program}{w:World}{H:Hp}(h:Heap)(hb:sysModules<h.objs.size):ObjOk P w H (h.push {cls:= .type "dict",data:= .dict #[]}) h.objs.size (.dK []):=
 ⟨Nat.zero_le _,beq_eq_false_iff_ne.mpr (Ne.symm (Nat.ne_of_lt hb)),[], .nil,Heap.DictOf.new h⟩
def wQ:TE:=fun _ H Q=>∀p,H p=none→Q (.ref p) (upd H p (.dK []))
section
variable{X:Cx}{pos:Pos}
theorem wR:PE X (.Dict [] [] pos) wQ:=fun pins s σ H Q I h=>
 wpAny_Dict_empty ⟨.ref s.heap.objs.size,_,I.laid (a:=s.heap.objs.size) (o:= .dK []) (t':=s.toks) (fun _ _ q=>Heap.get?_push_of_some _ q) (Nat.le_refl _) (wP s.heap I.big),rfl,h _ (I.hok.fresh (Nat.le_refl _))⟩
end
structure M2(X:Cx)(o:Expr)(m:Str)(apos:Pos)(e f:Expr)(cpos:Pos):Prop where
 base:attributeBase o m X.env (eval o X.env)=eval o X.env
 few:((backTo cpos (starEach [e,f] X.env)).all (fun x=> !x.1)&&(backToKw cpos (keywordEach [] X.env)).all (fun x=>x.1.isSome)
  &&decide (([e,f]:List Expr).length+([]:List Keyword).length+(if([]:List Keyword).isEmpty then 0 else 1)<30))=true
 line:(apos.endLine==cpos.line)=true
 trees:backTo cpos (starEach [e,f] X.env)=[(false,eval e X.env),(false,eval f X.env)]
def IsD(H:Hp)(a:Addr):Prop:=(∃kvs,Rd H a (.dK kvs))∨∃kvs,Rd H a (.dT kvs)
theorem Bq{X:Cx}{pins:List (Addr×Obj)}{σ:St}{H:Hp}{s:Shared}{a:Addr}(I:Inv X pins σ H s)(d:IsD H a):
 s.TypeIs (.ref a) "dict"∧(∀b,Value.ref a= .ref b→∃ob,s.heap.get? b=some ob∧ob.dict=none)∧(a==sysModules)=false:=by
 rcases d with⟨kvs,e⟩|⟨kvs,e⟩
 · obtain⟨_,hd,vs,_,dd⟩:=re I.hok e
   refine⟨dd.typeIs,fun b q=> ?_,hd⟩
   cases q
   obtain⟨ob,_,_,h1,h2,_⟩:=dd
   exact⟨ob,h1,h2.2.1⟩
 · obtain⟨_,hd,xs,_,dd⟩:=rg I.hok e
   refine⟨dd.typeIs,fun b q=> ?_,hd⟩
   cases q
   obtain⟨ob,_,_,h1,h2,_⟩:=dd
   exact⟨ob,h1,h2.2.1⟩
section
variable{X:Cx}{pins:List (Addr×Obj)}{σ:St}{H:Hp}{s:Shared}{a:Addr}{y d:V}{u r:Value}{o:Option V}{A:Around}{E:Value→Shared→Prop}
theorem Bs{Q:Value→Shared→Prop}(hu:A.units+1<cLine)(I:Inv X pins σ H s)(g:DGet H a y o)(ry:RelV y u)(rd:RelV d r)(h:∀w' s',Inv X pins σ H s'→RelV (o.getD d) w'→Q w' s'):
 wpAny (model X.prog X.w) A (call (.builtin "dict.get") [.ref a,u,r]) Q E s:=by
 rcases g with⟨kvs,k,e,ey,l⟩|⟨kvs,k,b,e,ey,eb,l⟩
 · subst ey
   obtain⟨z,hd,vs,rel,dd⟩:=re I.hok e
   refine call_meetsIn PySem.F.slot_dict_get dd.typeIs PySem.F.entry_dict_get (PySem.F.args_dict_get_3 _ _ _) (meets_dict_get_default (cB X.prog X.w) a (uH ry) hd r) ⟨_,dd.mapOf,h _ _ (I.tok _) ?_⟩
   rw[l]
   exact(rel.val k).getD rd
 · subst ey
   cases (show u=Value.ref b from ry)
   obtain⟨z,hd,xs,rel,dd⟩:=rg I.hok e
   refine call_meetsIn PySem.F.slot_dict_get dd.typeIs PySem.F.entry_dict_get (PySem.F.args_dict_get_3 _ _ _) (meetsH_dict_get_default (tupleKind (cB X.prog X.w)) a b hd r) ⟨tupleKind_room_in1 hu,k,xs,pE I.hok eb,dd,h _ _ (I.tok _) ?_⟩
   rw[l]
   exact(rel.val k).getD rd
end
def wS(td ty tx:TE):TE:=fun σ H Q=>td σ H fun x H1=>∃a,x= .ref a∧IsD H1 a∧ty σ H1 fun y H2=>tx σ H2 fun z H3=>∃o,DGet H3 a y o∧Q (o.getD z) H3
section
variable{X:Cx}{o e f:Expr}{apos cpos:Pos}{td ty tx:TE}
theorem ri(hu:X.A.units+1<cLine)(ho:PE X o td)(he:PE X e ty)(hf:PE X f tx)(m:M2 X o "get" apos e f cpos):PE X (.Call (.Attribute o "get" apos) [e,f] [] cpos) (wS td ty tx):=by
 intro pins s σ H Q I h
 refine wpAny_Call_method m.base m.few m.line PySem.F.plainAttrs_dict PySem.F.slot_dict_get PySem.F.type_dict_get (thn (ho pins s σ H _ I h) fun u s1 ⟨x,H1,I1,rx,a,ex,d,q1⟩=> ?_)
 subst ex
 obtain rfl:u=Value.ref a:=rx
 obtain⟨t1,t2,_⟩:=Bq I1 d
 refine⟨t1,t2, ?_⟩
 rw[m.trees]
 refine Calls.callWith_builtin rfl (Calls.evalArgs_plain (Calls.spliced_cons (thn (he pins s1 σ H1 _ I1 q1) fun iv s2 ⟨y,H2,I2,ry,q2⟩=>
  Calls.spliced_cons (thn (hf pins s2 σ H2 _ I2 q2) fun fv s3 ⟨z,H3,I3,rz,ov,g,q3⟩=>Calls.spliced_nil ?_))))
 exact Bs hu I3 g ry rz fun w' s4 I4 rw'=>⟨_,H3,I4,rw',q3⟩
end
section
variable{X:Cx}{pins:List (Addr×Obj)}{σ:St}{H:Hp}{s:Shared}{a:Addr}{kvs:List (Key×V)}{A:Around}{E:Value→Shared→Prop}
end
section
variable{X:Cx}{pins:List (Addr×Obj)}{σ:St}{H:Hp}{s:Shared}{a:Addr}{y:V}{u:Value}{A:Around}{E:Value→Shared→Prop}
end
def DE(h:Heap)(a:Addr)(es:Array DictEntry)(ep:Nat):Prop:=∃o,h.get? a=some o∧o.ExactDict∧o.data= .dict es ep
section
variable{prog:Program}{w:World}{A:Around}{E:Value→Shared→Prop}{s:Shared}{a it:Addr}{es:Array DictEntry}{ep i:Nat}
theorem DE.ty(h:DE s.heap a es ep):s.TypeIs (.ref a) "dict":=let⟨o,e,x,_⟩:=h;⟨o,e,x.1⟩
theorem DE.on{h h':Heap}(d:DE h a es ep)(k:∀o,h.get? a=some o→h'.get? a=some o):DE h' a es ep:=let⟨o,e,r⟩:=d;⟨o,k o e,r⟩
theorem DE.lt{h:Heap}(d:DE h a es ep):a<h.objs.size:=let⟨_,e,_⟩:=d;Heap.lt_size e
abbrev D8(d:Addr)(n ep:Nat):Obj:={cls:= .type "dict_keyiterator",data:= .fields #[.ref d, .int 0 0, .int n 0, .int ep 0]}
theorem yN{Q:Value→Shared→Prop}(no:(a==sysModules)=false)(d:DE s.heap a es ep)(q:Q (.ref s.heap.objs.size) {s with heap:=s.heap.push (D8 a es.size ep)}):wpAny (model prog w) A (pyIter (.ref a)) Q E s:=by
 have T:=d.ty
 obtain⟨o,e,_,ed⟩:=d
 refine wpAny_pyIter_slot T F.slot_dict_iter (wpAny_call_entry F.slot_dict_iter T F.entry_dict_iter (by
  unfold Builtin.«dict.__iter__» Builtin.Dict.dictSlotNone
  refine wpAny_bind (wpAny_bind (wpAny_notOrdered_dict T (by
   show wpAny _ _ (pure (Value.ref a)) _ _ s
   refine wpAny_pure (by
    show wpAny _ _ (Builtin.Dict.showsAll a>>=_) _ _ s
    unfold Builtin.Dict.showsAll
    rw[no,if_neg Bool.false_ne_true]
    refine wpAny_bind (wpAny_pure (wpAny_bind (wpAny_dictEntries e ed (wpAny_bind (wpAny_dictEpoch e ed ?_)))))
    exact wpAny_bind (wpAny_newObj_type (wpAny_pure ⟨_,rfl,"dict_keyiterator",_,⟨_,Heap.get?_push_size _ rfl,rfl⟩,F.slot_dict_keyiterator_next.lookup,by simpa [rawInt] using q⟩))))))) (F.args_dict_iter_1 _))
theorem yO{Q:Option Value→Shared→Prop}(st:s.heap.IsKeyIter it a i es.size ep)(d:DE s.heap a es ep)(hi:i<es.size)
 (q:∀h',h'.IsKeyIter it a (i+1) es.size ep→Heap.SameBut it s.heap h'→Q (some es[i].key) {s with heap:=h'}):wpAny (model prog w) A (pyNext (.ref it)) Q E s:=by
 have T:=st.typeIs
 obtain⟨o,e,ec,ed⟩:=id st
 obtain⟨od,f,_,fd⟩:=id d
 have own0:Builtin.Dict_items.ownsTuple "dict_keyiterator"=false:=by decide
 have st':(s.heap.update it (Obj.mapFields (·.setIfInBounds 1 (rawInt ((i:Int)+1))))).IsKeyIter it a (i+1) es.size ep:=
  ⟨_,Heap.get?_update_self _ e (Obj.isFreed_of_fields (Obj.data_mapFields ed _)),(Obj.cls_mapFields ..).trans ec,by rw[Obj.data_mapFields ed];simp[rawInt]⟩
 unfold pyNext
 refine wpAny_bind (wpAny_attempt (wpAny_callSpecial?_slot (name:=Str.ofString "__next__") T F.slot_dict_keyiterator_next (wpAny_call_entry F.slot_dict_keyiterator_next T F.entry_dict_keyiterator_next ?_ (F.args_dict_keyiterator_next_1 _))))
 refine wpAny_bind (wpAny_pure (wpAny_bind (wpAny_bind ?_)))
 (first|refine wpAny_bind (wpAny_typeNameOfWhole_keyiter T (wpAny_pure (wpAny_bind (wpAny_fieldsOf e ed ?_))))|refine wpAny_bind (wpAny_typeNameOf_keyiter T (wpAny_pure (wpAny_bind (wpAny_fieldsOf e ed ?_)))))
 rw[own0]
 show wpAny _ _ (if(Value.ref a==Value.none)=true then _ else _) _ _ s
 rw[if_neg (fun z:(Value.ref a==Value.none)=true=>Bool.false_ne_true z)]
 refine wpAny_bind (wpAny_pure (wpAny_bind (wpAny_dictEntries f fd ?_)))
 rw[if_neg (by simp)]
 refine wpAny_bind (wpAny_pure (wpAny_bind (wpAny_dictEpoch f fd ?_)))
 rw[if_neg (by simp)]
 refine wpAny_pure ?_
 simp only[show ¬((i:Int)<0) from by omega,if_false,Int.toNat_natCast,Array.getElem?_eq_getElem hi]
 refine wpAny_bind ?_
 (first|refine wpAny_bind (wpAny_typeNameOfWhole_keyiter T (wpAny_pure (wpAny_bind (wpAny_isOneOf_keyiter T ?_))))|refine wpAny_bind (wpAny_typeNameOf_keyiter T (wpAny_pure (wpAny_bind (wpAny_isOneOf_keyiter T ?_)))))
 show wpAny _ _ (setField (.ref it) 1 (rawInt ((i:Int)+1))>>=_) _ _ s
 refine wpAny_bind (wpAny_setField e ed (by simp) (wpAny_bind (wpAny_holding ?_)))
 refine wpAny_bind (wpAny_isOneOf_keyiter (s:={s with heap:=s.heap.update it (Obj.mapFields (·.setIfInBounds 1 (rawInt ((i:Int)+1))))}) st'.typeIs ?_)
 show wpAny _ _ (pure es[i].key) _ _ _
 exact wpAny_pure (wpAny_pure ⟨_,rfl,wpAny_pure (q _ st' (Heap.SameBut.update ..))⟩)
theorem yP{Q:Option Value→Shared→Prop}(hh:A.handled=none)(st:s.heap.IsKeyIter it a es.size es.size ep)(d:DE s.heap a es ep)(q:∀h',Heap.ExtBut it s.heap h'→Q none {s with heap:=h'}):wpAny (model prog w) A (pyNext (.ref it)) Q E s:=by
 have T:=st.typeIs
 obtain⟨o,e,ec,ed⟩:=id st
 obtain⟨od,f,_,fd⟩:=id d
 have own0:Builtin.Dict_items.ownsTuple "dict_keyiterator"=false:=by decide
 unfold pyNext
 refine wpAny_bind (wpAny_attempt (wpAny_callSpecial?_slot (name:=Str.ofString "__next__") T F.slot_dict_keyiterator_next (wpAny_call_entry F.slot_dict_keyiterator_next T F.entry_dict_keyiterator_next ?_ (F.args_dict_keyiterator_next_1 _))))
 refine wpAny_bind (wpAny_pure (wpAny_bind (wpAny_bind ?_)))
 (first|refine wpAny_bind (wpAny_typeNameOfWhole_keyiter T (wpAny_pure (wpAny_bind (wpAny_fieldsOf e ed ?_))))|refine wpAny_bind (wpAny_typeNameOf_keyiter T (wpAny_pure (wpAny_bind (wpAny_fieldsOf e ed ?_)))))
 rw[own0]
 show wpAny _ _ (if(Value.ref a==Value.none)=true then _ else _) _ _ s
 rw[if_neg (fun z:(Value.ref a==Value.none)=true=>Bool.false_ne_true z)]
 refine wpAny_bind (wpAny_pure (wpAny_bind (wpAny_dictEntries f fd ?_)))
 rw[if_neg (by simp)]
 refine wpAny_bind (wpAny_pure (wpAny_bind (wpAny_dictEpoch f fd ?_)))
 rw[if_neg (by simp)]
 refine wpAny_pure ?_
 simp only[show ¬(((es.size:Nat):Int)<0) from by omega,if_false,Int.toNat_natCast,Array.getElem?_eq_none (Nat.le_refl es.size)]
 refine wpAny_bind ?_
 (first|refine wpAny_bind (wpAny_typeNameOfWhole_keyiter T (wpAny_pure ?_))|refine wpAny_bind (wpAny_typeNameOf_keyiter T (wpAny_pure ?_)))
 show wpAny _ _ (setField (.ref it) 0 .none>>=_) _ _ s
 refine wpAny_bind (wpAny_setField e ed (by simp) ?_)
 show wpAny _ _ (newExc (.type "StopIteration") []>>=_) _ _ _
 refine wpAny_bind ?_
 simp only[newExc,newTuple]
 refine wpAny_bind (wpAny_newObj_type ?_ (by size_fits))
 refine wpAny_bind (m:=firstArgMember _ _) (wpAny_of_eq (a:=Value.none) (by first|rfl|(simp only[firstArgMember];rfl)) (wpAny_newObj_type ?_ (by size_fits)))
 simp only[raiseNew]
 refine wpAny_bind (wpAny_handled ?_)
 rw[show A.in1.handled=none from hh]
 refine wpAny_bind (wpAny_pure (wpAny_throw ?_));refine wpAny_bind (wpAny_isInstance (T:="StopIteration") (b:=true) ⟨_,Heap.get?_push_size _ rfl,rfl⟩ isSubtype_stop ?_)
 exact wpAny_pure (q _ (((Heap.SameBut.update ..).extBut.push _).push _))
theorem wT(hh:A.handled=none)(I d:Addr)(hne:d≠I)(es:Array DictEntry)(ep:Nat):
 Walks prog w A I [I,d] [I] es.size (fun i v=>∃e,es[i]? =some e∧v=e.key) (fun i h=>h.IsKeyIter I d i es.size ep∧DE h d es ep) where
 sub:=fun b hb=>by simp at hb;simp[hb]
 frame:=fun _ _ _ st hk=>⟨st.1.at fun o e=>hk I (by simp) o e,st.2.on fun o e=>hk d (by simp) o e⟩
 item:=fun i s Q E hi st hQ=>by
  refine yO st.1 st.2 hi fun h' hit' hs'=> ?_
  refine hQ _ h' s.toks ⟨es[i],Array.getElem?_eq_getElem hi,rfl⟩ ⟨hit',st.2.on fun o e=>hs'.extBut d o hne e⟩ fun b o hb e=> ?_
  exact hs'.extBut b o (fun z=>hb (by simp[z])) e
 done:=fun s Q E st hQ=>yP hh st.1 st.2 fun h' he'=>hQ h' s.toks fun b o hb e=>he' b o (fun z=>hb (by simp[z])) e
 self:=fun _ _ _ _ st hQ=>wpAny_pyIter_keyiter st.1 hQ
theorem Bt(no:(a==sysModules)=false):W.KdlSrc prog w "dict" a a es.size (fun i v=>∃e,es[i]? =some e∧v=e.key) (fun h=>DE h a es ep) where
 type:=fun _ d=>d.ty
 there:=fun _ d=>⟨d.lt,d.lt⟩
 keep:=fun _ _ d hk=>d.on fun o e=>hk a (.inl rfl) o e
 notList:=by decide
 notTuple:=by decide
 hint:=fun _ _ _ _ d q=>W.kdl_hint_dict d.ty q
 iter:=fun _ _ hh d=>⟨_,_,(fun _ _ q=>yN no d q),wT hh _ a (Nat.ne_of_lt d.lt) es ep,⟨⟨_,Heap.get?_push_size _ rfl,rfl,rfl⟩,d.on fun _ e=>Heap.get?_push_of_some _ e⟩⟩
end
theorem uK:∀{xs:List V} {us:List Value},xs.length=us.length→(∀(j:Nat) (v:V) (u:Value),xs[j]? =some v→us[j]? =some u→RelV v u)→Vals xs us
 |[],[],_,_=> .nil
 |x::xs,u::us,h,k=> .cons (k 0 x u rfl rfl) (uK (by simpa using h) fun j v w h1 h2=>k (j+1) v w (by simpa using h1) (by simpa using h2))
 |[],_::_,h,_=>by simp at h
 |_::_,[],h,_=>by simp at h
end L2
namespace L2
open PySem PySem.Spec PyProof.Rows
section
variable{X:Cx}{a b c d:Expr}{ta tb tc td:TE}{pos:Pos}
end
theorem lV{us:List Value}{n:Nat}(h:us.length=n+1):∃a r,us=a::r:=by
 cases us with
 |nil=>cases h
 |cons a r=>exact⟨a,r,rfl⟩
theorem us1{us:List Value}(h:us.length=1):∃a,us=[a]:=by
 obtain⟨a,us,rfl⟩:=lV h
 exact⟨a,by rw[List.eq_nil_of_length_eq_zero (Nat.succ.inj h)]⟩
theorem us2{us:List Value}(h:us.length=2):∃a b,us=[a,b]:=by
 obtain⟨a,us,rfl⟩:=lV h
 obtain⟨b,rfl⟩:=us1 (Nat.succ.inj h)
 exact⟨a,b,rfl⟩
theorem us3{us:List Value}(h:us.length=3):∃a b c,us=[a,b,c]:=by
 obtain⟨a,us,rfl⟩:=lV h
 obtain⟨b,c,rfl⟩:=us2 (Nat.succ.inj h)
 exact⟨a,b,c,rfl⟩
theorem us4{us:List Value}(h:us.length=4):∃a b c d,us=[a,b,c,d]:=by
 obtain⟨a,us,rfl⟩:=lV h
 obtain⟨b,c,d,rfl⟩:=us3 (Nat.succ.inj h)
 exact⟨a,b,c,d,rfl⟩
theorem us5{us:List Value}(h:us.length=5):∃a b c d e,us=[a,b,c,d,e]:=by
 obtain⟨a,us,rfl⟩:=lV h
 obtain⟨b,c,d,e,rfl⟩:=us4 (Nat.succ.inj h)
 exact⟨a,b,c,d,e,rfl⟩
theorem us6{us:List Value}(h:us.length=6):∃a b c d e f,us=[a,b,c,d,e,f]:=by
 obtain⟨a,us,rfl⟩:=lV h
 obtain⟨b,c,d,e,f,rfl⟩:=us5 (Nat.succ.inj h)
 exact⟨a,b,c,d,e,f,rfl⟩
end L2
namespace PD
open PySem L2
inductive Cl where
 |Open|Bridge|Road|Cart|Trip|Day
 deriving DecidableEq
inductive Fl where
 |length|name|bears|wide|most|pieces|rounds|shuts|speed|wheels|cart|way|start|crossings|ended|road|loads|sends
 deriving DecidableEq
def Cl.s:Cl→Str
 | .Open=>"Open"| .Bridge=>"Bridge"| .Road=>"Road"| .Cart=>"Cart"| .Trip=>"Trip"| .Day=>"Day"
def Fl.s:Fl→Str
 | .length=>"length"| .name=>"name"| .bears=>"bears"| .wide=>"wide"| .most=>"most"| .pieces=>"pieces"| .rounds=>"rounds"| .shuts=>"shuts"
 | .speed=>"speed"| .wheels=>"wheels"| .cart=>"cart"| .way=>"way"| .start=>"start"| .crossings=>"crossings"| .ended=>"ended"| .road=>"road"| .loads=>"loads"| .sends=>"sends"
def Cl.fs:Cl→List Fl
 | .Open=>[.length]| .Bridge=>[.name, .length, .bears, .wide, .most]| .Road=>[.pieces, .rounds, .shuts]| .Cart=>[.name, .speed, .wheels]
 | .Trip=>[.cart, .way, .start, .crossings, .ended]| .Day=>[.road, .loads, .sends]
inductive D where
 |non|bl (b:Bool)|int (i:Int)|str (x:Str)
 |tup (xs:List D)|kt (xs:List D)|lst (xs:List D)|fz (xs:List D)
 |ob (c:Cl) (fs:List (Fl×D))
 |dk (ks:List Key) (ds:List D)|dt (ks:List (List Key)) (ds:List D)
def CF(K:W.Frag)(ns:List Str)(c:Cl):Prop:=PKd K ns (clA K c.s) [c.s] (c.fs.map Fl.s)
def KT(K:W.Frag)(a:Addr)(xs:List V):Prop:=∃(o:Obj) (its:Array Value) (n:Nat),K.lookup a=some o∧o.cls= .type "tuple"∧o.data= .seq its n∧its.size≤sizeLine∧Vals xs its.toList
def FZ(K:W.Frag)(H:Hp)(a:Addr)(xs:List V):Prop:=(∃o:Obj,H a=some (.frz o (.lst xs)))∨∃(o:Obj) (its:Array Value) (n:Nat),K.lookup a=some o∧o.cls= .type "list"∧o.dict=none∧o.data= .seq its n∧its.size≤sizeLine∧Vals xs its.toList
mutual
inductive Rd(K:W.Frag)(ns:List Str)(L:Addr→Prop)(H:Hp):V→D→Prop
 |non:Rd K ns L H .non .non
 |bl (b:Bool):Rd K ns L H (.bl b) (.bl b)
 |int (i:Int):Rd K ns L H (.int i) (.int i)
 |str (x:Str):Rd K ns L H (.str x) (.str x)
 |tup {a:Addr} {vs:List V} {ds:List D} (e:H a=some (.tup vs)) (r:Rds K ns L H vs ds):Rd K ns L H (.ref a) (.tup ds)
 |kt {a:Addr} {vs:List V} {ds:List D} (e:KT K a vs) (r:Rds K ns L H vs ds):Rd K ns L H (.ref a) (.kt ds)
 |lst {a:Addr} {vs:List V} {ds:List D} (l:L a) (e:H a=some (.lst vs)) (r:Rds K ns L H vs ds):Rd K ns L H (.ref a) (.lst ds)
 |fz {a:Addr} {vs:List V} {ds:List D} (e:FZ K H a vs) (r:Rds K ns L H vs ds):Rd K ns L H (.ref a) (.fz ds)
 |ob {a dx:Addr} {gs:List (Str×V)} {c:Cl} {fs:List (Fl×D)} (l:L a) (e:H a=some (.ins (clA K c.s) dx gs)) (k:CF K ns c) (r:Rfs K ns L H gs fs):Rd K ns L H (.ref a) (.ob c fs)
 |dk {a:Addr} {kvs:List (Key×V)} {ds:List D} (l:L a) (e:H a=some (.dK kvs)) (r:Rds K ns L H (kvs.map (·.2)) ds):Rd K ns L H (.ref a) (.dk (kvs.map (·.1)) ds)
 |dt {a:Addr} {kvs:List (List Key×V)} {ds:List D} (l:L a) (e:H a=some (.dT kvs)) (r:Rds K ns L H (kvs.map (·.2)) ds):Rd K ns L H (.ref a) (.dt (kvs.map (·.1)) ds)
inductive Rds(K:W.Frag)(ns:List Str)(L:Addr→Prop)(H:Hp):List V→List D→Prop
 |nil:Rds K ns L H [] []
 |cons {v:V} {d:D} {vs:List V} {ds:List D} (h:Rd K ns L H v d) (t:Rds K ns L H vs ds):Rds K ns L H (v::vs) (d::ds)
inductive Rfs(K:W.Frag)(ns:List Str)(L:Addr→Prop)(H:Hp):List (Str×V)→List (Fl×D)→Prop
 |nil {gs:List (Str×V)}:Rfs K ns L H gs []
 |cons {gs:List (Str×V)} {f:Fl} {v:V} {d:D} {fs:List (Fl×D)} (e:gs.lookup f.s=some v) (h:Rd K ns L H v d) (t:Rfs K ns L H gs fs):Rfs K ns L H gs ((f,d)::fs)
end
def wU:HO→Bool
 | .lst _=>true
 | .ins _ _ _=>true
 | .dK _=>true
 | .dT _=>true
 |_=>false
def KeepL(L:Addr→Prop)(H H':Hp):Prop:=∀a o,H a=some o→(wU o=true→L a)→H' a=some o
section
variable{K:W.Frag}{ns:List Str}{L L':Addr→Prop}{H H' H'':Hp}
theorem KeepL.of(h:Same H H'):KeepL L H H':=fun a o e _=>h a o e
theorem KeepL.refl:KeepL L H H:=fun _ _ e _=>e
theorem Rd.mono2(hL:∀a o,H a=some o→L a→L' a)(hk:KeepL L H H'){v:V}{d:D}(h:Rd K ns L H v d):Rd K ns L' H' v d:=Rd.rec (motive_1:=fun v d _=>Rd K ns L' H' v d) (motive_2:=fun vs ds _=>Rds K ns L' H' vs ds) (motive_3:=fun gs fs _=>Rfs K ns L' H' gs fs) .non .bl .int .str (fun e _ ih=> .tup (hk _ _ e fun z=>by cases z) ih) (fun e _ ih=> .kt e ih) (fun l e _ ih=> .lst (hL _ _ e l) (hk _ _ e fun _=>l) ih) (fun e _ ih=> .fz (e.imp (fun z=>z.elim fun o z=>⟨o,hk _ _ z fun z=>by cases z⟩) id) ih) (fun l e k _ ih=> .ob (hL _ _ e l) (hk _ _ e fun _=>l) k ih) (fun l e _ ih=> .dk (hL _ _ e l) (hk _ _ e fun _=>l) ih) (fun l e _ ih=> .dt (hL _ _ e l) (hk _ _ e fun _=>l) ih) .nil (fun _ _ h t=> .cons h t) .nil (fun e _ _ h t=> .cons e h t) h
theorem Rds.mono2(hL:∀a o,H a=some o→L a→L' a)(hk:KeepL L H H'){vs:List V}{ds:List D}(h:Rds K ns L H vs ds):Rds K ns L' H' vs ds:=Rds.rec (motive_1:=fun v d _=>Rd K ns L' H' v d) (motive_2:=fun vs ds _=>Rds K ns L' H' vs ds) (motive_3:=fun gs fs _=>Rfs K ns L' H' gs fs) .non .bl .int .str (fun e _ ih=> .tup (hk _ _ e fun z=>by cases z) ih) (fun e _ ih=> .kt e ih) (fun l e _ ih=> .lst (hL _ _ e l) (hk _ _ e fun _=>l) ih) (fun e _ ih=> .fz (e.imp (fun z=>z.elim fun o z=>⟨o,hk _ _ z fun z=>by cases z⟩) id) ih) (fun l e k _ ih=> .ob (hL _ _ e l) (hk _ _ e fun _=>l) k ih) (fun l e _ ih=> .dk (hL _ _ e l) (hk _ _ e fun _=>l) ih) (fun l e _ ih=> .dt (hL _ _ e l) (hk _ _ e fun _=>l) ih) .nil (fun _ _ h t=> .cons h t) .nil (fun e _ _ h t=> .cons e h t) h
theorem Rfs.mono2(hL:∀a o,H a=some o→L a→L' a)(hk:KeepL L H H'){gs:List (Str×V)}{fs:List (Fl×D)}(h:Rfs K ns L H gs fs):Rfs K ns L' H' gs fs:=Rfs.rec (motive_1:=fun v d _=>Rd K ns L' H' v d) (motive_2:=fun vs ds _=>Rds K ns L' H' vs ds) (motive_3:=fun gs fs _=>Rfs K ns L' H' gs fs) .non .bl .int .str (fun e _ ih=> .tup (hk _ _ e fun z=>by cases z) ih) (fun e _ ih=> .kt e ih) (fun l e _ ih=> .lst (hL _ _ e l) (hk _ _ e fun _=>l) ih) (fun e _ ih=> .fz (e.imp (fun z=>z.elim fun o z=>⟨o,hk _ _ z fun z=>by cases z⟩) id) ih) (fun l e k _ ih=> .ob (hL _ _ e l) (hk _ _ e fun _=>l) k ih) (fun l e _ ih=> .dk (hL _ _ e l) (hk _ _ e fun _=>l) ih) (fun l e _ ih=> .dt (hL _ _ e l) (hk _ _ e fun _=>l) ih) .nil (fun _ _ h t=> .cons h t) .nil (fun e _ _ h t=> .cons e h t) h
theorem Rd.mono(hL:∀a,L a→L' a)(hk:KeepL L H H'){v:V}{d:D}(h:Rd K ns L H v d):Rd K ns L' H' v d:=h.mono2 (fun a _ _=>hL a) hk
theorem Rds.mono(hL:∀a,L a→L' a)(hk:KeepL L H H'){vs:List V}{ds:List D}(h:Rds K ns L H vs ds):Rds K ns L' H' vs ds:=h.mono2 (fun a _ _=>hL a) hk
theorem Rfs.mono(hL:∀a,L a→L' a)(hk:KeepL L H H'){gs:List (Str×V)}{fs:List (Fl×D)}(h:Rfs K ns L H gs fs):Rfs K ns L' H' gs fs:=h.mono2 (fun a _ _=>hL a) hk
abbrev Nw(L:Addr→Prop)(H:Hp):Addr→Prop:=fun a=>L a∨H a=none
theorem ie{a:Addr}(S:Same H H')(h:H' a=none):H a=none:=by
 cases e:H a with
 |none=>rfl
 |some o=>rw[S _ _ e] at h;cases h
theorem nw2(S:Same H H'){a:Addr}(h:Nw (Nw L H) H' a):Nw L H a:=h.elim id fun q=> .inr (ie S q)
theorem Rd.nw{v:V}{d:D}(h:Rd K ns L H v d):Rd K ns (Nw L H) H v d:=h.mono (fun _=> .inl) .refl
theorem Rd.same{v:V}{d:D}(h:Rd K ns L H v d)(S:Same H H'):Rd K ns L H' v d:=h.mono (fun _ q=>q) (.of S)
theorem Rds.same{v:List V}{d:List D}(h:Rds K ns L H v d)(S:Same H H'):Rds K ns L H' v d:=h.mono (fun _ q=>q) (.of S)
theorem Rds.nilL{ds:List D}(h:Rds K ns L H [] ds):ds=[]:=by cases h;rfl
theorem Rds.consL{v:V}{vs:List V}{ds:List D}(h:Rds K ns L H (v::vs) ds):∃d es,ds=d::es∧Rd K ns L H v d∧Rds K ns L H vs es:=by
 cases h with
 |cons h t=>exact⟨_,_,rfl,h,t⟩
theorem Rds.len{vs:List V}{ds:List D}(h:Rds K ns L H vs ds):vs.length=ds.length:=by
 induction vs generalizing ds with
 |nil=>rw[h.nilL];rfl
 |cons v vs ih=>
  obtain⟨d,es,rfl,a,t⟩:=h.consL
  exact congrArg Nat.succ (ih t)
theorem Rds.get{vs:List V}{ds:List D}{i:Nat}{d:D}(h:Rds K ns L H vs ds)(e:ds[i]? =some d):∃v,vs[i]? =some v∧Rd K ns L H v d:=by
 induction vs generalizing ds i with
 |nil=>rw[h.nilL] at e;cases e
 |cons v vs ih=>
  obtain⟨c,es,rfl,a,t⟩:=h.consL
  cases i with
  |zero=>cases e;exact⟨_,rfl,a⟩
  |succ i=>exact ih t e
theorem Rds.append{vs ws:List V}{ds es:List D}(h:Rds K ns L H vs ds)(s:Rds K ns L H ws es):Rds K ns L H (vs++ws) (ds++es):=by
 induction vs generalizing ds with
 |nil=>rw[h.nilL];exact s
 |cons v vs ih=>
  obtain⟨d,es,rfl,a,t⟩:=h.consL
  exact .cons a (ih t)
theorem Rds.drop{vs:List V}{ds:List D}(n:Nat)(h:Rds K ns L H vs ds):Rds K ns L H (vs.drop n) (ds.drop n):=by
 induction vs generalizing ds n with
 |nil=>rw[h.nilL,List.drop_nil,List.drop_nil];exact .nil
 |cons v vs ih=>
  obtain⟨d,es,rfl,a,t⟩:=h.consL
  cases n with
  |zero=>exact h
  |succ n=>exact ih n t
theorem Rds.take{vs:List V}{ds:List D}(n:Nat)(h:Rds K ns L H vs ds):Rds K ns L H (vs.take n) (ds.take n):=by
 induction vs generalizing ds n with
 |nil=>rw[h.nilL,List.take_nil,List.take_nil];exact .nil
 |cons v vs ih=>
  obtain⟨d,es,rfl,a,t⟩:=h.consL
  cases n with
  |zero=>exact .nil
  |succ n=>exact .cons a (ih n t)
theorem aV{p:Addr}(h:H p=none)(o:HO):Same H (upd H p o):=fun b u q=>by rw[aR (aM q h)];exact q
theorem iF{α β:Type}:∀{xs:List α} {ys:List β},xs.length=ys.length→xs.isEmpty=ys.isEmpty
 |[],[],_=>rfl
 |_::_,_::_,_=>rfl
 |[],_::_,h=>by cases h
 |_::_,[],h=>by cases h
def RdO(K:W.Frag)(ns:List Str)(L:Addr→Prop)(H:Hp):HO→D→Prop
 | .lst vs, .lst ds=>Rds K ns L H vs ds
 | .dK kvs, .dk ks ds=>kvs.map (·.1)=ks∧Rds K ns L H (kvs.map (·.2)) ds
 | .dT kvs, .dt ks ds=>kvs.map (·.1)=ks∧Rds K ns L H (kvs.map (·.2)) ds
 |_,_=>False
theorem RdO.case{o:HO}{d:D}(h:RdO K ns L H o d):(∃vs ds,o= .lst vs∧d= .lst ds∧Rds K ns L H vs ds)∨(∃kvs ds,o= .dK kvs∧d= .dk (kvs.map (·.1)) ds∧Rds K ns L H (kvs.map (·.2)) ds)∨∃kvs ds,o= .dT kvs∧d= .dt (kvs.map (·.1)) ds∧Rds K ns L H (kvs.map (·.2)) ds:=by
 cases o with
 |lst vs=>cases d<;>first|exact h.elim|exact .inl ⟨_,_,rfl,rfl,h⟩
 |dK kvs=>cases d<;>first|exact h.elim|exact .inr (.inl ⟨_,_,rfl,by rw[h.1],h.2⟩)
 |dT kvs=>cases d<;>first|exact h.elim|exact .inr (.inr ⟨_,_,rfl,by rw[h.1],h.2⟩)
 |_=>exact h.elim
theorem RdO.rd{o:HO}{d:D}{a:Addr}(h:RdO K ns L H o d)(l:L a)(e:H a=some o):Rd K ns L H (.ref a) d:=by
 rcases h.case with⟨vs,ds,rfl,rfl,r⟩|⟨kvs,ds,rfl,rfl,r⟩|⟨kvs,ds,rfl,rfl,r⟩
 · exact .lst l e r
 · exact .dk l e r
 · exact .dt l e r
theorem RdO.map{L':Addr→Prop}{H':Hp}{o:HO}{d:D}(h:RdO K ns L H o d)(f:∀{vs:List V} {ds:List D},Rds K ns L H vs ds→Rds K ns L' H' vs ds):RdO K ns L' H' o d:=by
 rcases h.case with⟨vs,ds,rfl,rfl,r⟩|⟨kvs,ds,rfl,rfl,r⟩|⟨kvs,ds,rfl,rfl,r⟩
 · exact f r
 · exact⟨rfl,f r⟩
 · exact⟨rfl,f r⟩
theorem RdO.mono(hL:∀a,L a→L' a)(hk:KeepL L H H'){o:HO}{d:D}(h:RdO K ns L H o d):RdO K ns L' H' o d:=h.map fun r=>r.mono hL hk
theorem RdO.mono2(hL:∀a o,H a=some o→L a→L' a)(hk:KeepL L H H'){o:HO}{d:D}(h:RdO K ns L H o d):RdO K ns L' H' o d:=h.map fun r=>r.mono2 hL hk
theorem RdO.same{o:HO}{d:D}(h:RdO K ns L H o d)(S:Same H H'):RdO K ns L H' o d:=h.map fun r=>r.same S
theorem RdO.mut{o:HO}{d:D}(h:RdO K ns L H o d):wU o=true:=by
 rcases h.case with⟨vs,ds,rfl,rfl,r⟩|⟨kvs,ds,rfl,rfl,r⟩|⟨kvs,ds,rfl,rfl,r⟩<;>rfl
theorem SqT.kt{a:Addr}{xs:List V}(h:KT K a xs):SqT K H a xs:= .inr h
theorem SqL.fz{a:Addr}{xs:List V}(h:FZ K H a xs):SqL K H a xs:=h.elim (fun z=> .inl (.inr z)) .inr
theorem FZ.mono{a:Addr}{xs:List V}(h:FZ K H a xs)(hk:KeepL L H H'):FZ K H' a xs:=h.imp (fun⟨o,z⟩=>⟨o,hk _ _ z fun z=>by cases z⟩) id
end
mutual
def D.flat:D→Bool
 | .lst _=>false
 | .tup xs=>flats xs
 | .kt xs=>flats xs
 | .fz xs=>flats xs
 | .ob _ _=>false
 | .dk _ _=>false
 | .dt _ _=>false
 |_=>true
def flats:List D→Bool
 |[]=>true
 |d::r=>d.flat&&flats r
end
section
variable{K:W.Frag}{ns:List Str}{L L':Addr→Prop}{H H' H'':Hp}
theorem Rd.flat{v:V}{d:D}(r:Rd K ns L H v d):d.flat=true→Rd K ns L' H v d:=Rd.rec (motive_1:=fun v d _=>d.flat=true→Rd K ns L' H v d) (motive_2:=fun vs ds _=>flats ds=true→Rds K ns L' H vs ds) (motive_3:=fun _ _ _=>True) (fun _=> .non) (fun b _=> .bl b) (fun i _=> .int i) (fun x _=> .str x) (fun e _ ih h=> .tup e (ih (by simpa [D.flat] using h))) (fun e _ ih h=> .kt e (ih (by simpa [D.flat] using h))) (fun _ _ _ _ h=>by simp[D.flat] at h) (fun e _ ih h=> .fz e (ih (by simpa [D.flat] using h))) (fun _ _ _ _ _ h=>by simp[D.flat] at h) (fun _ _ _ _ h=>by simp[D.flat] at h) (fun _ _ _ _ h=>by simp[D.flat] at h) (fun _=> .nil) (fun _ _ h t q=>by rw[flats,Bool.and_eq_true] at q;exact .cons (h q.1) (t q.2)) trivial (fun _ _ _ _ _=>trivial) r
theorem Rds.flat{vs:List V}{ds:List D}(r:Rds K ns L H vs ds):flats ds=true→Rds K ns L' H vs ds:=Rds.rec (motive_1:=fun v d _=>d.flat=true→Rd K ns L' H v d) (motive_2:=fun vs ds _=>flats ds=true→Rds K ns L' H vs ds) (motive_3:=fun _ _ _=>True) (fun _=> .non) (fun b _=> .bl b) (fun i _=> .int i) (fun x _=> .str x) (fun e _ ih h=> .tup e (ih (by simpa [D.flat] using h))) (fun e _ ih h=> .kt e (ih (by simpa [D.flat] using h))) (fun _ _ _ _ h=>by simp[D.flat] at h) (fun e _ ih h=> .fz e (ih (by simpa [D.flat] using h))) (fun _ _ _ _ _ h=>by simp[D.flat] at h) (fun _ _ _ _ h=>by simp[D.flat] at h) (fun _ _ _ _ h=>by simp[D.flat] at h) (fun _=> .nil) (fun _ _ h t q=>by rw[flats,Bool.and_eq_true] at q;exact .cons (h q.1) (t q.2)) trivial (fun _ _ _ _ _=>trivial) r
end
end PD
namespace PD
open PySem L2
abbrev Env:=List (Option D)
abbrev VF:=Env→Option D
abbrev AF:=Env→Option (List D)
abbrev BF:=Env→Option Bool
def vD(i:Nat):VF:=fun env=>(env[i]?).join
def cD(d:D):VF:=fun _=>some d
def oD(g:D→D→Option D)(fa fb:VF):VF:=fun env=>(fa env).bind fun a=>(fb env).bind fun b=>g a b
def uD(g:D→Option D)(fa:VF):VF:=fun env=>(fa env).bind g
def au:AF:=fun _=>some []
def ah(fa:VF)(fr:AF):AF:=fun env=>(fa env).bind fun a=>(fr env).bind fun r=>some (a::r)
def cG(fa:AF):VF:=fun env=>(fa env).bind fun ds=>some (.tup ds)
def fQ(fa:AF):VF:=fun env=>(fa env).bind fun ds=>some (.lst ds)
def av(g:List D→Option D)(fa:AF):VF:=fun env=>(fa env).bind g
def bD(f:VF):BF:=fun env=>(f env).bind fun| .bl b=>some b|_=>none
def Bu:D→Option Bool
 | .non=>some false
 | .bl b=>some b
 | .int i=>some (i != 0)
 | .lst xs=>some (!xs.isEmpty)
 | .fz xs=>some (!xs.isEmpty)
 | .tup xs=>some (!xs.isEmpty)
 | .kt xs=>some (!xs.isEmpty)
 |_=>none
def trD(f:VF):BF:=fun env=>(f env).bind Bu
def lW(a b:BF):BF:=fun env=>(a env).bind fun x=>if x=true then b env else some false
def orB(a b:BF):BF:=fun env=>(a env).bind fun x=>if x=true then some true else b env
def m8(a:BF):BF:=fun env=>(a env).bind fun x=>some (!x)
def wV(a b:VF):VF:=fun env=>(a env).bind fun| .bl x=>if x=true then b env else some (.bl false)|_=>none
def orD(a b:VF):VF:=fun env=>(a env).bind fun| .bl x=>if x=true then some (.bl true) else b env|_=>none
def Bv(a:VF):VF:=fun env=>(a env).bind fun| .bl x=>some (.bl (!x))|_=>none
def ifD(c:BF)(a b:VF):VF:=fun env=>(c env).bind fun x=>if x=true then a env else b env
def iO:BF:=fun _=>some true
section
variable(K:W.Frag)(ns:List Str)
def EnvR(L:Addr→Prop)(env:Env)(σ:St)(H:Hp):Prop:=∀(i:Nat) (d:D),env[i]? =some (some d)→∃v,σ[i]? =some (some v)∧Rd K ns L H v d
def PuE(t:TE)(f:VF):Prop:=∀(L:Addr→Prop) (env:Env) (σ:St) (H:Hp) (Q:VK) (d:D),EnvR K ns L env σ H→f env=some d→(∀v H',Same H H'→Rd K ns (Nw L H) H' v d→Q v H')→t σ H Q
def PuF(t:TE)(f:VF):Prop:=∀(L:Addr→Prop) (env:Env) (σ:St) (H:Hp) (Q:VK) (d:D),EnvR K ns L env σ H→f env=some d→
 (∀p vs ds H',d= .lst ds→Same H H'→H p=none→H' p=some (.lst vs)→Rds K ns (fun a=>Nw L H a∧a≠p) H' vs ds→Q (.ref p) H')→t σ H Q
def PuA(n:Nat)(t:TA)(f:AF):Prop:=∀(L:Addr→Prop) (env:Env) (σ:St) (H:Hp) (Q:List V→Hp→Prop) (ds:List D),EnvR K ns L env σ H→f env=some ds→(∀vs H',ds.length=n→Same H H'→Rds K ns (Nw L H) H' vs ds→Q vs H')→t σ H Q
def PuT(t:TT)(f:BF):Prop:=∀(L:Addr→Prop) (env:Env) (σ:St) (H:Hp) (Q:Bool→Hp→Prop) (b:Bool),EnvR K ns L env σ H→f env=some b→(∀H',Same H H'→Q b H')→t σ H Q
def R2P(r:R2)(g:D→D→Option D):Prop:=∀(L:Addr→Prop) (H:Hp) (x y:V) (a b d:D) (Q:VK),Rd K ns L H x a→Rd K ns L H y b→g a b=some d→(∀v H',Same H H'→Rd K ns (Nw L H) H' v d→Q v H')→r x y H Q
def UnP(r:V→Hp→VK→Prop)(g:D→Option D):Prop:=∀(L:Addr→Prop) (H:Hp) (x:V) (a d:D) (Q:VK),Rd K ns L H x a→g a=some d→(∀v H',Same H H'→Rd K ns (Nw L H) H' v d→Q v H')→r x H Q
def CaP(r:List V→Hp→VK→Prop)(g:List D→Option D):Prop:=∀(L:Addr→Prop) (H:Hp) (xs:List V) (as:List D) (d:D) (Q:VK),Rds K ns L H xs as→g as=some d→(∀v H',Same H H'→Rd K ns (Nw L H) H' v d→Q v H')→r xs H Q
def CaF(r:List V→Hp→VK→Prop)(g:List D→Option D):Prop:=∀(L:Addr→Prop) (H:Hp) (xs:List V) (as:List D) (d:D) (Q:VK),Rds K ns L H xs as→g as=some d→
 (∀p vs ds H',d= .lst ds→Same H H'→H p=none→H' p=some (.lst vs)→Rds K ns (fun a=>Nw L H a∧a≠p) H' vs ds→Q (.ref p) H')→r xs H Q
end
theorem pF{β:Type}{z:D}{f:Bool→Option β}{y:β}(h:(match z with| .bl x=>f x|_=>none)=some y):∃x,z= .bl x∧f x=some y:=by
 cases z with
 |bl x=>exact⟨x,rfl,h⟩
 |_=>cases h
section
variable{K:W.Frag}{ns:List Str}
theorem Rd.blI{L:Addr→Prop}{H:Hp}{x:V}{b:Bool}(r:Rd K ns L H x (.bl b)):x= .bl b:=by cases r;rfl
theorem Rd.strI{L:Addr→Prop}{H:Hp}{x:V}{b:Str}(r:Rd K ns L H x (.str b)):x= .str b:=by cases r;rfl
theorem Rd.intI{L:Addr→Prop}{H:Hp}{x:V}{b:Int}(r:Rd K ns L H x (.int b)):x= .int b:=by cases r;rfl
theorem Rd.tupI{L:Addr→Prop}{H:Hp}{x:V}{ds:List D}(r:Rd K ns L H x (.tup ds)):∃a vs,x= .ref a∧H a=some (.tup vs)∧Rds K ns L H vs ds:=by
 cases r with
 |tup e r=>exact⟨_,_,rfl,e,r⟩
theorem Rd.lstI{L:Addr→Prop}{H:Hp}{x:V}{ds:List D}(r:Rd K ns L H x (.lst ds)):∃a vs,x= .ref a∧L a∧H a=some (.lst vs)∧Rds K ns L H vs ds:=by
 cases r with
 |lst l e r=>exact⟨_,_,rfl,l,e,r⟩
theorem EnvR.same{L:Addr→Prop}{env:Env}{σ:St}{H H':Hp}(h:EnvR K ns L env σ H)(S:Same H H'):EnvR K ns L env σ H':=fun i d e=>by
 obtain⟨v,q,r⟩:=h i d e
 exact⟨v,q,r.same S⟩
theorem EnvR.nw{L:Addr→Prop}{env:Env}{σ:St}{H H':Hp}(h:EnvR K ns L env σ H)(S:Same H H'):EnvR K ns (Nw L H) env σ H':=fun i d e=>by
 obtain⟨v,q,r⟩:=h i d e
 exact⟨v,q,r.nw.same S⟩
theorem bnd{α β:Type}{o:Option α}{g:α→Option β}{y:β}(h:o.bind g=some y):∃x,o=some x∧g x=some y:=by
 cases o with
 |none=>cases h
 |some x=>exact⟨x,rfl,h⟩
theorem PuF.pe{t:TE}{f:VF}(h:PuF K ns t f):PuE K ns t f:=fun L env σ H Q d he hf k=>
 h L env σ H Q d he hf fun p vs ds H' e S hn hp r=>by
   subst e
   exact k _ _ S (.lst (.inr hn) hp (r.mono (fun _ q=>q.1) .refl))
theorem ae(i:Nat):PuE K ns (oY i) (vD i):=by
 intro L env σ H Q d he hf k
 have e:env[i]? =some (some d):=by
  unfold vD at hf
  cases q:env[i]? with
  |none=>rw[q] at hf;cases hf
  |some o=>rw[q] at hf;exact congrArg some hf
 obtain⟨v,q,r⟩:=he i d e
 exact⟨v,q,k v H (Same.refl _) r.nw⟩
theorem aj(i:Int):PuE K ns (tC (.int i)) (cD (.int i)):=fun L env σ H Q d he hf k=>by cases hf;exact k _ _ (Same.refl _) (.int i)
theorem fV(i:Bool):PuE K ns (tC (.bl i)) (cD (.bl i)):=fun L env σ H Q d he hf k=>by cases hf;exact k _ _ (Same.refl _) (.bl i)
theorem wW:PuE K ns (tC .non) (cD .non):=fun L env σ H Q d he hf k=>by cases hf;exact k _ _ (Same.refl _) .non
theorem Bw(i:Str):PuE K ns (tC (.str i)) (cD (.str i)):=fun L env σ H Q d he hf k=>by cases hf;exact k _ _ (Same.refl _) (.str i)
theorem ak{r:R2}{g:D→D→Option D}{ta tb:TE}{fa fb:VF}(hr:R2P K ns r g)(ha:PuE K ns ta fa)(hb:PuE K ns tb fb):PuE K ns (tOp r ta tb) (oD g fa fb):=by
 intro L env σ H Q d he hf k
 obtain⟨a,ea,hf⟩:=bnd hf
 obtain⟨b,eb,hf⟩:=bnd hf
 refine ha L env σ H _ a he ea fun x H1 S1 rx=>hb (Nw L H) env σ H1 _ b (he.nw S1) eb fun y H2 S2 ry=> ?_
 refine hr (Nw (Nw L H) H1) H2 x y a b d Q (rx.mono (fun _=> .inl) (.of S2)) ry hf fun v H3 S3 rv=>k v H3 (S1.trans (S2.trans S3)) (rv.mono (fun q hq=> ?_) .refl)
 exact nw2 S1 (nw2 S2 hq)
theorem wX{r:V→Hp→VK→Prop}{g:D→Option D}{ta:TE}{fa:VF}(hr:UnP K ns r g)(ha:PuE K ns ta fa):PuE K ns (tUn r ta) (uD g fa):=by
 intro L env σ H Q d he hf k
 obtain⟨a,ea,hf⟩:=bnd hf
 exact ha L env σ H _ a he ea fun x H1 S1 rx=>hr (Nw L H) H1 x a d Q rx hf fun v H3 S3 rv=>k v H3 (S1.trans S3) (rv.mono (fun q hq=>nw2 S1 hq) .refl)
theorem am:PuA K ns 0 qU au:=fun L env σ H Q ds he hf k=>by cases hf;exact k _ _ rfl (Same.refl _) .nil
theorem af{n:Nat}{ta:TE}{fa:VF}{tr:TA}{fr:AF}(ha:PuE K ns ta fa)(hr:PuA K ns n tr fr):PuA K ns (n+1) (kC ta tr) (ah fa fr):=by
 intro L env σ H Q ds he hf k
 obtain⟨a,ea,hf⟩:=bnd hf
 obtain⟨r,er,hf⟩:=bnd hf
 cases hf
 refine ha L env σ H _ a he ea fun x H1 S1 rx=>hr (Nw L H) env σ H1 _ r (he.nw S1) er fun ys H2 hl S2 ry=> ?_
 exact k _ H2 (congrArg Nat.succ hl) (S1.trans S2) (.cons (rx.mono (fun _ q=>q) (.of S2)) (ry.mono (fun q hq=>nw2 S1 hq) .refl))
theorem df{n:Nat}{t:TA}{f:AF}(h:PuA K ns n t f)(hn:n≤sizeLine:=by decide):PuE K ns (AZ t) (cG f):=by
 intro L env σ H Q d he hf k
 obtain⟨a,ea,hf⟩:=bnd hf
 cases hf
 refine h L env σ H _ a he ea fun vs H1 hl S1 rx=>⟨by rw[rx.len,hl];exact hn,fun p hp=> ?_⟩
 have N:=aV hp (.tup vs)
 exact k _ _ (S1.trans N) (.tup aX (rx.same N))
theorem bZ{n:Nat}{t:TA}{f:AF}(h:PuA K ns n t f)(hn:n≤sizeLine:=by decide):PuF K ns (CH t) (fQ f):=by
 intro L env σ H Q d he hf k
 obtain⟨a,ea,hf⟩:=bnd hf
 cases hf
 refine h L env σ H _ a he ea fun vs H1 hl S1 rx=>⟨by rw[rx.len,hl];exact hn,fun p hp=> ?_⟩
 have N:=aV hp (.lst vs)
 refine k p vs a _ rfl (S1.trans N) (ie S1 hp) aX (rx.mono2 (fun a xs e q=>⟨q,fun z=> ?_⟩) (.of N))
 subst z
 rw[hp] at e
 cases e
theorem dX{n:Nat}{r:List V→Hp→VK→Prop}{g:List D→Option D}{t:TA}{f:AF}(hr:CaP K ns r g)(h:PuA K ns n t f):PuE K ns (tCB r t) (av g f):=by
 intro L env σ H Q d he hf k
 obtain⟨a,ea,hf⟩:=bnd hf
 exact h L env σ H _ a he ea fun xs H1 _ S1 rx=>hr (Nw L H) H1 xs a d Q rx hf fun v H3 S3 rv=>k v H3 (S1.trans S3) (rv.mono (fun q hq=>nw2 S1 hq) .refl)
theorem i9{n:Nat}{r:List V→Hp→VK→Prop}{g:List D→Option D}{t:TA}{f:AF}(hr:CaF K ns r g)(h:PuA K ns n t f):PuF K ns (tCB r t) (av g f):=by
 intro L env σ H Q d he hf k
 obtain⟨a,ea,hf⟩:=bnd hf
 exact h L env σ H _ a he ea fun xs H1 _ S1 rx=>hr (Nw L H) H1 xs a d Q rx hf fun p vs ds H3 e S3 hp h3 rv=>k p vs ds H3 e (S1.trans S3) (ie S1 hp) h3 (rv.mono (fun q hq=>⟨nw2 S1 hq.1,hq.2⟩) .refl)
theorem ig{t:TE}{f:VF}(h:PuE K ns t f):PuT K ns (tB t) (bD f):=by
 intro L env σ H Q b he hf k
 obtain⟨d,ed,hf⟩:=bnd hf
 refine h L env σ H _ d he ed fun v H1 S1 r=> ?_
 obtain⟨c,rfl,hf⟩:=pF hf
 cases hf
 exact⟨_,r.blI,k _ S1⟩
theorem bW{t:TE}{f:VF}(h:PuE K ns t f):PuT K ns (ww t) (bD f):=ig h
theorem Bx{t:TE}{f:VF}(h:PuE K ns t f):PuT K ns (fun σ H Q=>t σ H fun x H'=>∃k,AW K x H' k∧Q k H') (trD f):=by
 intro L env σ H Q b he hf k
 obtain⟨d,ed,hf⟩:=bnd hf
 refine h L env σ H _ d he ed fun v H1 S1 r=> ?_
 cases r with
 |non=>cases hf;exact⟨_,rfl,k _ S1⟩
 |bl b=>cases hf;exact⟨_,rfl,k _ S1⟩
 |int i=>cases hf;exact⟨_,rfl,k _ S1⟩
 |str x=>cases hf
 |tup e r=>cases hf;exact⟨_, .inr (.inl ⟨_,SqT.of e,by rw[iF r.len]⟩),k _ S1⟩
 |kt e r=>cases hf;exact⟨_, .inr (.inl ⟨_,SqT.kt e,by rw[iF r.len]⟩),k _ S1⟩
 |lst l e r=>cases hf;exact⟨_, .inl ⟨_,SqL.of e,by rw[iF r.len]⟩,k _ S1⟩
 |fz e r=>cases hf;exact⟨_, .inl ⟨_,SqL.fz e,by rw[iF r.len]⟩,k _ S1⟩
 |ob l e _ r=>cases hf
 |dk l e r=>cases hf
 |dt l e r=>cases hf
theorem jP:PuT K ns CU iO:=fun L env σ H Q b he hf k=>by cases hf;exact k _ (Same.refl _)
theorem li{t u:TT}{f g:BF}(h:PuT K ns t f)(h2:PuT K ns u g):PuT K ns (Cq t u) (lW f g):=by
 intro L env σ H Q b he hf k
 obtain⟨x,ex,hf⟩:=bnd hf
 refine h L env σ H _ x he ex fun H1 S1=> ?_
 cases x with
 |false=>
  rw[if_neg Bool.false_ne_true] at hf ⊢
  cases hf
  exact k _ S1
 |true=>
  rw[if_pos rfl] at hf ⊢
  exact h2 _ env σ H1 _ b (he.nw S1) hf fun H2 S2=>k _ (S1.trans S2)
theorem pG{t u:TT}{f g:BF}(h:PuT K ns t f)(h2:PuT K ns u g):PuT K ns (tOr t u) (orB f g):=by
 intro L env σ H Q b he hf k
 obtain⟨x,ex,hf⟩:=bnd hf
 refine h L env σ H _ x he ex fun H1 S1=> ?_
 cases x with
 |true=>
  rw[if_pos rfl] at hf ⊢
  cases hf
  exact k _ S1
 |false=>
  rw[if_neg Bool.false_ne_true] at hf ⊢
  exact h2 _ env σ H1 _ b (he.nw S1) hf fun H2 S2=>k _ (S1.trans S2)
theorem jk{t:TT}{f:BF}(h:PuT K ns t f):PuT K ns (Ct t) (m8 f):=by
 intro L env σ H Q b he hf k
 obtain⟨x,ex,hf⟩:=bnd hf
 cases hf
 exact h L env σ H _ x he ex fun H1 S1=>k _ S1
theorem By{t:TE}{f:VF}(h:PuE K ns t f):PuE K ns (zT t) (Bv f):=by
 intro L env σ H Q b he hf k
 obtain⟨x,ex,hf⟩:=bnd hf
 refine h L env σ H _ x he ex fun v H1 S1 r=> ?_
 obtain⟨c,rfl,hf⟩:=pF hf
 cases hf
 exact⟨_,r.blI,k _ _ S1 (.bl _)⟩
theorem tK{t u:TE}{f g:VF}(h:PuE K ns t f)(h2:PuE K ns u g):PuE K ns (zS t u) (wV f g):=by
 intro L env σ H Q b he hf k
 obtain⟨x,ex,hf⟩:=bnd hf
 refine h L env σ H _ x he ex fun v H1 S1 r=> ?_
 obtain⟨c,rfl,hf⟩:=pF hf
 refine⟨c,r.blI, ?_⟩
 cases c with
 |false=>
  rw[if_neg Bool.false_ne_true]
  cases hf
  exact k _ _ S1 (.bl _)
 |true=>
  rw[if_pos rfl]
  exact h2 _ env σ H1 _ b (he.nw S1) hf fun v H2 S2 r=>k _ _ (S1.trans S2) (r.mono (fun q hq=>nw2 S1 hq) .refl)
theorem Db{t:TT}{ta tb:TE}{c:BF}{f g:VF}(h:PuT K ns t c)(h1:PuE K ns ta f)(h2:PuE K ns tb g):PuE K ns (tIf t ta tb) (ifD c f g):=by
 intro L env σ H Q b he hf k
 obtain⟨x,ex,hf⟩:=bnd hf
 refine h L env σ H _ x he ex fun H1 S1=> ?_
 cases x with
 |true=>
  rw[if_pos rfl] at hf ⊢
  exact h1 _ env σ H1 _ b (he.nw S1) hf fun v H2 S2 r=>k _ _ (S1.trans S2) (r.mono (fun q hq=>nw2 S1 hq) .refl)
 |false=>
  rw[if_neg Bool.false_ne_true] at hf ⊢
  exact h2 _ env σ H1 _ b (he.nw S1) hf fun v H2 S2 r=>k _ _ (S1.trans S2) (r.mono (fun q hq=>nw2 S1 hq) .refl)
end
end PD
namespace PD
open PySem L2
abbrev big:Int:=18446744073709551616
def ii(g:Int→Int→Option D):D→D→Option D
 | .int i, .int j=>g i j
 |_,_=>none
def ba:D→D→Option D
 | .int i, .int j=>some (.int (i+j))
 | .str a, .str b=>if a.length+b.length≤1000000 then some (.str (a++b)) else none
 | .lst a, .lst b=>if a.length+b.length≤1000000 then some (.lst (a++b)) else none
 | .tup a, .tup b=>if a.length+b.length≤1000000 then some (.tup (a++b)) else none
 |_,_=>none
def dg:D→D→Option D:=ii fun i j=>some (.int (i-j))
def dC:D→D→Option D
 | .int i, .int j=>if(-big<i∧i<big)∨(-big<j∧j<big) then some (.int (i*j)) else none
 | .str a, .int n=>if a.length≤16∧0≤n∧n≤1000000 then some (.str (Txt.mul a n)) else none
 |_,_=>none
def cZ:D→D→Option D:=ii fun i j=>if 0<j∧j<1073741824 then some (.int (i/j)) else none
def ij:D→D→Option D:=ii fun i j=>if 0<j∧j<big then some (.int (i/j)) else none
def cb:D→D→Option D:=ii fun i j=>if 0<j then some (.int (i%j)) else none
def ltD:D→D→Option D:=ii fun i j=>some (.bl (decide (i<j)))
def leD:D→D→Option D:=ii fun i j=>some (.bl (decide (i≤j)))
def gtD:D→D→Option D:=ii fun i j=>some (.bl (decide (j<i)))
mutual
def jm:D→Option PyData
 | .non=>some .none
 | .bl b=>some (.bool b)
 | .int i=>some (.int i)
 | .str x=>some (.str x)
 | .lst xs=>(toPys xs).map .list
 | .fz xs=>(toPys xs).map .list
 | .tup xs=>(toPys xs).map .tuple
 | .kt xs=>(toPys xs).map .tuple
 | .ob _ _=>none
 | .dk _ _=>none
 | .dt _ _=>none
def toPys:List D→Option (List PyData)
 |[]=>some []
 |d::r=>(jm d).bind fun x=>(toPys r).map (x:: ·)
end
def eqX(d e:D):Option Bool:=(jm d).bind fun x=>(jm e).bind fun y=>if SeqAt.shaped x=true∧SeqAt.shaped y=true then some (PyData.eqv x y) else none
def eqB:D→D→Option Bool
 | .int i, .int j=>some (decide (i=j))
 | .str i, .str j=>some (decide (i=j))
 | .bl i, .bl j=>some (decide (i=j))
 |d,e=>eqX d e
def eqD(d e:D):Option D:=(eqB d e).map .bl
def neD(d e:D):Option D:=(eqB d e).map fun b=> .bl (!b)
def D.isN:D→Bool
 | .non=>true
 |_=>false
def D.isB(b:Bool):D→Bool
 | .bl c=>decide (c=b)
 |_=>false
def isD:D→D→Option D
 |a, .non=>some (.bl a.isN)
 |a, .bl b=>some (.bl (a.isB b))
 |_,_=>none
def rj:D→Option (List D)
 | .lst xs=>some xs
 | .fz xs=>some xs
 | .tup xs=>some xs
 | .kt xs=>some xs
 |_=>none
def ixD:D→D→Option D
 | .str z, .int i=>if z.length≤1000000 then(atI z.cps.toList i).map fun c=> .str ⟨#[c]⟩ else none
 |d, .int i=>(rj d).bind fun xs=>atI xs i
 |_,_=>none
def m9(xs:List D)(lo hi:Option Int):List D:=(xs.drop (HT.sIx xs.length 0 lo)).take (HT.sIx xs.length xs.length hi-HT.sIx xs.length 0 lo)
def nc:D→Option Int→Option Int→Option D
 | .lst xs,lo,hi=>some (.lst (m9 xs lo hi))
 | .fz xs,lo,hi=>some (.lst (m9 xs lo hi))
 | .tup xs,lo,hi=>if HT.sIx xs.length 0 lo=0∧HT.sIx xs.length xs.length hi=xs.length then none else some (.tup (m9 xs lo hi))
 | .str z,lo,hi=>if z.length≤1000000 then some (.str (Txt.slice z lo hi)) else none
 |_,_,_=>none
abbrev OF:=Env→Option (Option Int)
def noO:OF:=fun _=>some none
def atO(f:VF):OF:=fun env=>(f env).bind fun| .int i=>some (some i)|_=>none
def slD(g:D→Option Int→Option Int→Option D)(f:VF)(lo hi:OF):VF:=fun env=>(f env).bind fun d=>(lo env).bind fun l=>(hi env).bind fun h=>g d l h
def pH:D→Option D
 | .int i=>some (.int (-i))
 |_=>none
def rk:List D→Option D
 |[.int i]=>some (.int (if i<0 then-i else i))
 |_=>none
def jQ:List D→Option D
 |[.str z]=>if z.length≤1000000 then some (.int z.length) else none
 |[d]=>(rj d).map fun xs=> .int xs.length
 |_=>none
def inS:List D→Option (List Int)
 |[]=>some []
 | .int b::r=>(inS r).map (b:: ·)
 |_=>none
def yQ:List D→Option D
 |[.lst xs]=>(inS xs).map fun bs=> .int bs.sum
 |_=>none
def kD:List D→Option D
 |[d]=>(rj d).map .lst
 |_=>none
def D.ty:D→String
 | .non=>"NoneType"| .bl _=>"bool"| .int _=>"int"| .str _=>"str"| .lst _=>"list"| .tup _=>"tuple"| .fz _=>"list"| .kt _=>""| .ob _ _=>"object"| .dk _ _=>"dict"| .dt _ _=>"dict"
def gM(t T:String):Bool:=t==T||(t=="bool"&&T=="int")
def isT(T:String):List D→Option D
 |[.kt _]=>none
 |[.fz _]=>none
 |[.dk _ _]=>none
 |[.dt _ _]=>none
 |[d]=>some (.bl (gM d.ty T))
 |_=>none
def isC(c:Cl):List D→Option D
 |[.ob c' _]=>some (.bl (decide (c'=c)))
 |_=>none
def jL(f:Fl):D→Option D
 | .ob c fs=>if f∈c.fs then fs.lookup f else none
 |_=>none
section
variable{K:W.Frag}{ns:List Str}
theorem kJ{g:Int→Int→Option D}{L:Addr→Prop}{H:Hp}{x y:V}{a b d:D}(rx:Rd K ns L H x a)(ry:Rd K ns L H y b)(hf:ii g a b=some d):∃i j,x= .int i∧y= .int j∧g i j=some d:=by
 cases rx<;>first|(cases hf;done)|(cases ry<;>first|(cases hf;done)|skip)
 exact⟨_,_,rfl,rfl,hf⟩
theorem aU:R2P K ns (wO K) ba:=by
 intro L H x y a b d Q rx ry hf k
 unfold ba at hf
 split at hf
 · cases hf
   exact .inl (.inl ⟨_,_,rx.intI,ry.intI,k _ _ (Same.refl _) (.int _)⟩)
 · split at hf
   · cases hf
     rename_i h
     exact .inl (.inr (.inl ⟨_,_,rx.strI,ry.strI,Nat.le_trans h (by decide),k _ _ (Same.refl _) (.str _)⟩))
   · cases hf
 · split at hf
   · cases hf
     rename_i h
     obtain⟨p1,v1,rfl,l1,e1,r1⟩:=rx.lstI
     obtain⟨p2,v2,rfl,l2,e2,r2⟩:=ry.lstI
     refine .inl (.inr (.inr ⟨_,_,_,_,rfl,rfl,e1,e2,by rw[r1.len,r2.len];exact Nat.le_trans h (by decide),fun p hp=>k _ _ (aV hp _) (.lst (.inr hp) aX ?_)⟩))
     exact(r1.append r2).mono (fun _=> .inl) (.of (aV hp _))
   · cases hf
 · split at hf
   · cases hf
     rename_i h
     obtain⟨p1,v1,rfl,e1,r1⟩:=rx.tupI
     obtain⟨p2,v2,rfl,e2,r2⟩:=ry.tupI
     have hl:∀{n m:Nat},n+m≤1000000→n+m≤sizeLine:=fun q=>Nat.le_trans q (by decide)
     cases r1 with
     |nil=>exact .inr (.inr ⟨_,_,_,rfl,rfl,SqT.of e1,SqT.of e2,k _ _ (Same.refl _) (Rd.tup e2 r2).nw⟩)
     |cons h1 t1=>
      have r1:=Rds.cons h1 t1
      refine .inr (.inl ⟨_,_,_,_,rfl,rfl,SqT.of e1,SqT.of e2,List.cons_ne_nil _ _,by rw[r1.len,r2.len];exact hl h,fun z=> ?_,fun _ p hp=>k _ _ (aV hp _) (.tup aX ((r1.append r2).mono (fun _=> .inl) (.of (aV hp _))))⟩)
      subst z
      cases r2
      rw[List.append_nil] at k
      exact k _ _ (Same.refl _) (Rd.tup e1 r1).nw
   · cases hf
 · cases hf
theorem yR{L:Addr→Prop}{H:Hp}{p:Addr}{vs:List V}{ds:List D}{o:HO}(r:Rds K ns L H vs ds)(hp:H p=none):Rds K ns (fun a=>Nw L H a∧a≠p) (upd H p o) vs ds:=
 r.mono2 (fun a xs e q=>⟨.inl q,aM e hp⟩) (.of (aV hp _))
theorem iP:R2P K ns CZ dg:=by
 intro L H x y a b d Q rx ry hf k
 obtain⟨i,j,rfl,rfl,hf⟩:=kJ rx ry hf
 cases hf
 exact⟨_,_,rfl,rfl,k _ _ (Same.refl _) (.int _)⟩
theorem dS:R2P K ns Ab dC:=by
 intro L H x y a b d Q rx ry hf k
 unfold dC at hf
 split at hf
 · split at hf
   · cases hf
     rename_i h
     refine .inl ⟨_,_,rx.intI,ry.intI, ?_,k _ _ (Same.refl _) (.int _)⟩
     rcases h with h|h
     · exact IntMulOk.of_left (intBits_le_64 h.1 h.2)
     · exact IntMulOk.of_right (intBits_le_64 h.1 h.2)
   · cases hf
 · split at hf
   · cases hf
     rename_i h
     exact .inr (.inr ⟨_,_,rx.strI,ry.intI,h.1,h.2.1,h.2.2,k _ _ (Same.refl _) (.str _)⟩)
   · cases hf
 · cases hf
theorem bX:R2P K ns C3 cZ:=by
 intro L H x y a b d Q rx ry hf k
 obtain⟨i,j,rfl,rfl,hf⟩:=kJ rx ry hf
 split at hf
 · cases hf
   rename_i h
   exact⟨_,_,rfl,rfl,h,k _ _ (Same.refl _) (.int _)⟩
 · cases hf
theorem fW:R2P K ns Bl ij:=by
 intro L H x y a b d Q rx ry hf k
 obtain⟨i,j,rfl,rfl,hf⟩:=kJ rx ry hf
 split at hf
 · cases hf
   rename_i h
   refine⟨_,_,rfl,rfl,⟨by omega,Nat.le_trans (intBits_le_64 (by have:=h.1;show (-18446744073709551616:Int)<_;omega) h.2) (by decide)⟩, ?_⟩
   show Q (V.int (i.fdiv j)) H
   rw[Int.fdiv_eq_ediv_of_nonneg _ (by have:=h.1;omega)]
   exact k _ _ (Same.refl _) (.int _)
 · cases hf
theorem bB:R2P K ns D3 cb:=by
 intro L H x y a b d Q rx ry hf k
 obtain⟨i,j,rfl,rfl,hf⟩:=kJ rx ry hf
 split at hf
 · cases hf
   rename_i h
   exact⟨_,_,rfl,rfl,h,k _ _ (Same.refl _) (.int _)⟩
 · cases hf
theorem kE:R2P K ns rLt ltD:=by
 intro L H x y a b d Q rx ry hf k
 obtain⟨i,j,rfl,rfl,hf⟩:=kJ rx ry hf
 cases hf
 exact⟨_,_,rfl,rfl,k _ _ (Same.refl _) (.bl _)⟩
theorem Af:R2P K ns rLe leD:=by
 intro L H x y a b d Q rx ry hf k
 obtain⟨i,j,rfl,rfl,hf⟩:=kJ rx ry hf
 cases hf
 exact⟨_,_,rfl,rfl,k _ _ (Same.refl _) (.bl _)⟩
theorem wY:R2P K ns rGt gtD:=by
 intro L H x y a b d Q rx ry hf k
 obtain⟨i,j,rfl,rfl,hf⟩:=kJ rx ry hf
 cases hf
 exact⟨_,_,rfl,rfl,k _ _ (Same.refl _) (.bl _)⟩
theorem Rd.py{L:Addr→Prop}{H:Hp}{v:V}{d:D}{y:PyData}(r:Rd K ns L H v d):jm d=some y→RdD K H v y:=Rd.rec (motive_1:=fun v d _=>∀y,jm d=some y→RdD K H v y) (motive_2:=fun vs ds _=>∀ys,toPys ds=some ys→RdDs K H vs ys) (motive_3:=fun _ _ _=>True) (fun y e=>by cases e;exact .non) (fun b y e=>by cases e;exact .bl b) (fun i y e=>by cases e;exact .int i) (fun x y e=>by cases e;exact .str x) (fun h _ ih y e=>by rw[jm] at e;obtain⟨z,ez,rfl⟩:=Option.map_eq_some_iff.mp e;exact .tup (SqT.of h) (ih z ez)) (fun h _ ih y e=>by rw[jm] at e;obtain⟨z,ez,rfl⟩:=Option.map_eq_some_iff.mp e;exact .tup (SqT.kt h) (ih z ez)) (fun l h _ ih y e=>by rw[jm] at e;obtain⟨z,ez,rfl⟩:=Option.map_eq_some_iff.mp e;exact .lst (SqL.of h) (ih z ez)) (fun h _ ih y e=>by rw[jm] at e;obtain⟨z,ez,rfl⟩:=Option.map_eq_some_iff.mp e;exact .lst (SqL.fz h) (ih z ez)) (fun _ _ _ _ _ y e=>by rw[jm] at e;cases e) (fun _ _ _ _ y e=>by rw[jm] at e;cases e) (fun _ _ _ _ y e=>by rw[jm] at e;cases e) (fun ys e=>by cases e;exact .nil) (fun _ _ ih it ys e=>by rw[toPys] at e;obtain⟨x,ex,e⟩:=bnd e;obtain⟨z,ez,rfl⟩:=Option.map_eq_some_iff.mp e;exact .cons (ih x ex) (it z ez)) trivial (fun _ _ _ _ _=>trivial) r y
theorem Bz{L:Addr→Prop}{H:Hp}{x y:V}{d e:D}{b:Bool}(rx:Rd K ns L H x d)(ry:Rd K ns L H y e)(h:eqX d e=some b):∃p q,RdD K H x p∧RdD K H y q∧SeqAt.shaped p=true∧SeqAt.shaped q=true∧PyData.eqv p q=b:=by
 obtain⟨p,ep,h⟩:=bnd h
 obtain⟨q,eq,h⟩:=bnd h
 split at h
 · rename_i hs
   exact⟨p,q,rx.py ep,ry.py eq,hs.1,hs.2,Option.some.inj h⟩
 · cases h
theorem wZ{L:Addr→Prop}{H:Hp}{x y:V}{a b:D}{c:Bool}(rx:Rd K ns L H x a)(ry:Rd K ns L H y b)(hc:eqB a b=some c):(∃i j:Int,x= .int i∧y= .int j∧c=decide (i=j))∨(∃i j:Str,x= .str i∧y= .str j∧c=decide (i=j))∨(∃i j:Bool,x= .bl i∧y= .bl j∧c=decide (i=j))∨∃p q,RdD K H x p∧RdD K H y q∧SeqAt.shaped p=true∧SeqAt.shaped q=true∧PyData.eqv p q=c:=by
 unfold eqB at hc
 split at hc
 · cases hc
   exact .inl ⟨_,_,rx.intI,ry.intI,rfl⟩
 · cases hc
   exact .inr (.inl ⟨_,_,rx.strI,ry.strI,rfl⟩)
 · cases hc
   exact .inr (.inr (.inl ⟨_,_,rx.blI,ry.blI,rfl⟩))
 · exact .inr (.inr (.inr (Bz rx ry hc)))
theorem uL{i j:Str}:decide (V.str i=V.str j)=decide (i=j):=by simp
theorem tL{i j:Bool}:decide (V.bl i=V.bl j)=decide (i=j):=by simp
theorem ja:R2P K ns (Bi K) eqD:=by
 intro L H x y a b d Q rx ry hf k
 obtain⟨c,hc,rfl⟩:=Option.map_eq_some_iff.mp hf
 rcases wZ rx ry hc with⟨i,j,rfl,rfl,rfl⟩|⟨i,j,rfl,rfl,rfl⟩|⟨i,j,rfl,rfl,rfl⟩|⟨p,q,r1,r2,s1,s2,rfl⟩
 · exact .inl ⟨_,_,rfl,rfl,k _ _ (Same.refl _) (.bl _)⟩
 · exact .inr (.inr (.inl ⟨rfl,by rw[uL];exact k _ _ (Same.refl _) (.bl _)⟩))
 · exact .inr (.inr (.inl ⟨rfl,by rw[tL];exact k _ _ (Same.refl _) (.bl _)⟩))
 · exact .inr (.inr (.inr ⟨p,q,r1,r2,s1,s2,k _ _ (Same.refl _) (.bl _)⟩))
theorem oH:R2P K ns (CT K) neD:=by
 intro L H x y a b d Q rx ry hf k
 obtain⟨c,hc,rfl⟩:=Option.map_eq_some_iff.mp hf
 rcases wZ rx ry hc with⟨i,j,rfl,rfl,rfl⟩|⟨i,j,rfl,rfl,rfl⟩|⟨i,j,rfl,rfl,rfl⟩|⟨p,q,r1,r2,s1,s2,rfl⟩
 · exact .inl ⟨_,_,rfl,rfl,k _ _ (Same.refl _) (.bl _)⟩
 · exact .inr (.inl ⟨rfl,by rw[uL];exact k _ _ (Same.refl _) (.bl _)⟩)
 · exact .inr (.inl ⟨rfl,by rw[tL];exact k _ _ (Same.refl _) (.bl _)⟩)
 · exact .inr (.inr ⟨p,q,r1,r2,s1,s2,k _ _ (Same.refl _) (.bl _)⟩)
theorem BA{L:Addr→Prop}{H:Hp}{x:V}{a:D}(r:Rd K ns L H x a):decide (x=V.non)=a.isN:=by cases r<;>rfl
theorem BB{L:Addr→Prop}{H:Hp}{x:V}{a:D}{b:Bool}(r:Rd K ns L H x a):decide (x=V.bl b)=a.isB b:=by cases r<;>first|rfl|exact tL
theorem oI:R2P K ns C7 isD:=by
 intro L H x y a b d Q rx ry hf k
 unfold isD at hf
 split at hf
 · cases hf
   cases ry
   exact .inl ⟨rfl,by rw[BA rx];exact k _ _ (Same.refl _) (.bl _)⟩
 · cases hf
   exact .inr ⟨_,ry.blI,by rw[BB rx];exact k _ _ (Same.refl _) (.bl _)⟩
 · cases hf
theorem tM{L:Addr→Prop}{H:Hp}{x:V}{d:D}{xs:List D}(r:Rd K ns L H x d)(h:rj d=some xs):∃p vs,x= .ref p∧(SqL K H p vs∨SqT K H p vs)∧Rds K ns L H vs xs:=by
 cases r<;>first|(cases h;done)|skip
 · rename_i e r;cases h;exact⟨_,_,rfl, .inr (SqT.of e),r⟩
 · rename_i e r;cases h;exact⟨_,_,rfl, .inr (SqT.kt e),r⟩
 · rename_i l e r;cases h;exact⟨_,_,rfl, .inl (SqL.of e),r⟩
 · rename_i e r;cases h;exact⟨_,_,rfl, .inl (SqL.fz e),r⟩
theorem BC{α β:Type}{xs:List α}{ys:List β}{i:Int}{y:β}(hl:xs.length=ys.length)(h:atI ys i=some y):∃j:Nat,ys[j]? =some y∧atI xs i=xs[j]? :=by
 unfold atI at h ⊢
 obtain⟨j,ej,e⟩:=bnd h
 rw[hl,ej]
 exact⟨j,e,rfl⟩
theorem aC:R2P K ns (rIx K) ixD:=by
 intro L H x y a b d Q rx ry hf k
 unfold ixD at hf
 split at hf
 · cases rx;cases ry
   split at hf
   · rename_i z i h
     obtain⟨c,hc,rfl⟩:=Option.map_eq_some_iff.mp hf
     exact .inr (.inr ⟨_,_,c,rfl,rfl,Nat.le_trans h (by decide),hc,k _ _ (Same.refl _) (.str _)⟩)
   · cases hf
 · cases ry
   obtain⟨xs,es,hf⟩:=bnd hf
   obtain⟨p,vs,rfl,sq,rs⟩:=tM rx es
   obtain⟨j,ej,e⟩:=BC rs.len hf
   obtain⟨v,ev,rv⟩:=rs.get ej
   rcases sq with sq|sq
   · exact .inl ⟨p,vs,_,v,rfl,rfl,sq,e.trans ev,k _ _ (Same.refl _) rv.nw⟩
   · exact .inr (.inl ⟨p,vs,_,v,rfl,rfl,sq,e.trans ev,k _ _ (Same.refl _) rv.nw⟩)
 · cases hf
theorem pI:UnP K ns D4 pH:=by
 intro L H x a d Q rx hf k
 cases rx<;>first|(cases hf;done)|skip
 cases hf
 exact⟨_,rfl,k _ _ (Same.refl _) (.int _)⟩
theorem kK{L:Addr→Prop}{H:Hp}{xs:List V}{d:D}(r:Rds K ns L H xs [d]):∃x,xs=[x]∧Rd K ns L H x d:=by
 cases r with
 |cons h t=>cases t;exact⟨_,rfl,h⟩
theorem w5{L:Addr→Prop}{H:Hp}{xs:List V}{d e:D}(r:Rds K ns L H xs [d,e]):∃x y,xs=[x,y]∧Rd K ns L H x d∧Rd K ns L H y e:=by
 cases r with
 |cons h t=>obtain⟨y,rfl,q⟩:=kK t;exact⟨_,_,rfl,h,q⟩
theorem pJ:CaP K ns D5 rk:=by
 intro L H xs as d Q rx hf k
 unfold rk at hf
 split at hf
 · cases hf
   obtain⟨x,rfl,r⟩:=kK rx
   cases r
   exact⟨_,rfl,k _ _ (Same.refl _) (.int _)⟩
 · cases hf
theorem jn:CaP K ns (D6 K) jQ:=by
 intro L H xs as d Q rx hf k
 unfold jQ at hf
 split at hf
 · obtain⟨x,rfl,r⟩:=kK rx
   cases r
   split at hf
   · rename_i h
     cases hf
     exact .inr ⟨_,rfl,Nat.le_trans h (by decide),k _ _ (Same.refl _) (.int _)⟩
   · cases hf
 · obtain⟨x,rfl,r⟩:=kK rx
   obtain⟨ys,ey,rfl⟩:=Option.map_eq_some_iff.mp hf
   obtain⟨p,vs,rfl,sq,rs⟩:=tM r ey
   have:=k (.int vs.length) H (Same.refl _) (by rw[rs.len];exact .int _)
   exact .inl ⟨p,vs,rfl,sq,this⟩
 · cases hf
theorem BD{L:Addr→Prop}{H:Hp}{vs:List V}{ds:List D}{bs:List Int}(r:Rds K ns L H vs ds)(e:inS ds=some bs):vs=bs.map V.int:=by
 induction vs generalizing ds bs with
 |nil=>rw[r.nilL] at e;cases e;rfl
 |cons v vs ih=>
  obtain⟨d,es,rfl,h,t⟩:=r.consL
  cases h<;>first|(cases e;done)|skip
  obtain⟨z,ez,rfl⟩:=Option.map_eq_some_iff.mp e
  rw[ih t ez]
  rfl
theorem BE:CaP K ns (C5 K) yQ:=by
 intro L H xs as d Q rx hf k
 unfold yQ at hf
 split at hf
 · obtain⟨x,rfl,r⟩:=kK rx
   obtain⟨bs,eb,rfl⟩:=Option.map_eq_some_iff.mp hf
   cases r with
   |lst l e r=>exact⟨_,bs,rfl,by rw[←BD r eb];exact SqL.of e,k _ _ (Same.refl _) (.int _)⟩
 · cases hf
theorem mO:CaF K ns (yI K) kD:=by
 intro L H xs as d Q rx hf k
 unfold kD at hf
 split at hf
 · obtain⟨x,rfl,r⟩:=kK rx
   obtain⟨ys,ey,rfl⟩:=Option.map_eq_some_iff.mp hf
   obtain⟨p,vs,rfl,sq,rs⟩:=tM r ey
   exact⟨p,vs,rfl,sq,fun l hl=>k _ _ _ _ rfl (aV hl _) hl aX (yR rs hl)⟩
 · cases hf
def PuO(K:W.Frag)(ns:List Str)(t:TO)(f:OF):Prop:=∀(L:Addr→Prop) (env:Env) (σ:St) (H:Hp) (Q:Option Int→Hp→Prop) (o:Option Int),EnvR K ns L env σ H→f env=some o→(∀H',Same H H'→Q o H')→t σ H Q
theorem w6:PuO K ns uA noO:=fun L env σ H Q o he hf k=>by cases hf;exact k _ (Same.refl _)
theorem rl{t:TE}{f:VF}(h:PuE K ns t f):PuO K ns (zY t) (atO f):=by
 intro L env σ H Q o he hf k
 obtain⟨d,ed,hf⟩:=bnd hf
 refine h L env σ H _ d he ed fun v H1 S1 r=> ?_
 cases r<;>first|(cases hf;done)|skip
 cases hf
 exact⟨_,rfl,k _ S1⟩
theorem pK{L:Addr→Prop}{H:Hp}{vs:List V}{ds:List D}(r:Rds K ns L H vs ds)(lo hi:Option Int):Rds K ns L H (qW vs lo hi) (m9 ds lo hi):=by
 unfold qW m9
 rw[r.len]
 exact(r.drop _).take _
theorem uM{t:TE}{f:VF}{tl th:TO}{fl fh:OF}(h:PuE K ns t f)(hl:PuO K ns tl fl)(hh:PuO K ns th fh):PuE K ns (tSl (CW K) t tl th) (slD nc f fl fh):=by
 intro L env σ H Q d he hf k
 obtain⟨a,ea,hf⟩:=bnd hf
 obtain⟨lo,el,hf⟩:=bnd hf
 obtain⟨hi,ehi,hf⟩:=bnd hf
 refine h L env σ H _ a he ea fun x H1 S1 rx=>hl (Nw L H) env σ H1 _ lo (he.nw S1) el fun H2 S2=>hh (Nw L H) env σ H2 _ hi (he.nw (S1.trans S2)) ehi fun H3 S3=> ?_
 have S13:=S2.trans S3
 have rx3:=rx.same S13
 have SS:=S1.trans S13
 have fin:∀{p:Addr} {o:HO} {a:Addr},H3 p=none→Nw (Nw L H) H3 a→Nw L H a:=fun {p o a} _ q=>nw2 SS q
 cases rx3 with
 |str z=>
  dsimp only[nc] at hf
  split at hf
  case isTrue hq=>
   cases hf
   exact .inr (.inr ⟨_,rfl,Nat.le_trans hq (by decide),k _ _ SS (.str _)⟩)
  case isFalse=>cases hf
 |tup e r=>
  dsimp only[nc] at hf
  split at hf
  case isTrue=>cases hf
  case isFalse hn=>
   cases hf
   refine .inr (.inl ⟨_,_,rfl,SqT.of e,by rw[r.len];exact hn,fun p hp=>k _ _ (SS.trans (aV hp _)) (.tup aX ((pK r _ _).mono (fun _ q=>q) (.of (aV hp _))))⟩)
 |lst l e r=>
  cases hf
  exact .inl ⟨_,_,rfl,SqL.of e,fun p hp=>k _ _ (SS.trans (aV hp _)) (.lst (.inr (ie SS hp)) aX ((pK r _ _).mono (fun _ q=>q) (.of (aV hp _))))⟩
 |fz e r=>
  cases hf
  exact .inl ⟨_,_,rfl,SqL.fz e,fun p hp=>k _ _ (SS.trans (aV hp _)) (.lst (.inr (ie SS hp)) aX ((pK r _ _).mono (fun _ q=>q) (.of (aV hp _))))⟩
 |_=>cases hf
theorem uN{L:Addr→Prop}{H:Hp}:∀{gs:List (Str×V)} {fs:List (Fl×D)} {f:Fl} {d:D},Rfs K ns L H gs fs→fs.lookup f=some d→∃v,gs.lookup f.s=some v∧Rd K ns L H v d
 |_,_,_,_, .nil,e=>by cases e
 |_,_,f,d, .cons (f:=g) h r t,e=>by
  rw[List.lookup_cons] at e
  by_cases q:f=g
  · subst q
    rw[beq_self_eq_true] at e
    cases e
    exact⟨_,h,r⟩
  · rw[beq_eq_false_iff_ne.mpr q] at e
    exact uN t e
theorem ng{t:TE}{h:VF}(f:Fl)(p:PuE K ns t h):PuE K ns (AY K t f.s) (uD (jL f) h):=by
 intro L env σ H Q d he hf k
 obtain⟨a,ea,hf⟩:=bnd hf
 refine p L env σ H _ a he ea fun x H1 S1 rx=> ?_
 cases rx<;>first|(cases hf;done)|skip
 rename_i l e c r
 dsimp only[jL] at hf
 split at hf
 · rename_i hm
   obtain⟨v,ev,rv⟩:=uN r hf
   exact⟨_,_,_,_,v,rfl,e,c.cls,c.na _ (List.mem_map_of_mem hm),ev,k _ _ S1 rv⟩
 · cases hf
end
end PD
namespace PD
open PySem L2
section
variable(K:W.Frag)(ns:List Str)
def ItP(J:It)(ds:List D)(L:Addr→Prop)(H1:Hp):Prop:=∀(L2:Addr→Prop) (i:Nat) (H:Hp),(∀a o,H1 a=some o→L a→L2 a)→KeepL L2 H1 H→
 (∀d,ds[i]? =some d→J.go i H∧∀x H',J.yld i H x H'→Same H H'∧Rd K ns (Nw L2 H) H' x d)∧(ds.length=i→J.stop i H)
def PuI(wi:TI)(f:AF):Prop:=∀(L:Addr→Prop) (env:Env) (σ:St) (H:Hp) (R:It→Hp→Prop) (ds:List D),EnvR K ns L env σ H→f env=some ds→(∀J H',Same H H'→ItP K ns J ds (Nw L H) H'→R J H')→wi σ H R
end
def aW:D→Option (List D)
 | .lst xs=>some xs
 | .fz xs=>some xs
 | .tup xs=>some xs
 | .kt xs=>some xs
 | .str z=>some (z.cps.toList.map fun c=> .str ⟨#[c]⟩)
 |_=>none
def itD(f:VF):AF:=fun env=>(f env).bind aW
def iG:List D→Option (List D)
 |[.int j]=>if-1000000<j∧j<1000000 then some ((List.range j.toNat).map fun(i:Nat)=>D.int (0+(i:Int))) else none
 |_=>none
def iaD(g:List D→Option (List D))(f:AF):AF:=fun env=>(f env).bind g
def Ag(xs:List D):List D:=xs.mapIdx fun i d=> .tup [.int i,d]
def Dc:List D→Option (List D)
 |[.lst xs]=>some (Ag xs)
 |_=>none
def lX(xs ys:List D):List D:=List.zipWith (fun a b=>D.tup [a,b]) xs ys
def pL:List D→Option (List D)
 |[.lst xs, .lst ys]=>some (lX xs ys)
 |_=>none
theorem w8{as ds:List D}(h:pL as=some ds):∃xs ys,as=[.lst xs, .lst ys]∧some (lX xs ys)=some ds:=by
 unfold pL at h
 split at h
 · exact⟨_,_,rfl,h⟩
 · cases h
def gN(fc:BF)(fe:VF)(caps:Env):List D→Option (List D)
 |[]=>some []
 |x::xs=>(fc (some x::caps)).bind fun b=>if b=true then(fe (some x::caps)).bind fun y=>(gN fc fe caps xs).map (y:: ·) else gN fc fe caps xs
def kF(cap:List Nat)(env:Env):Env:=cap.map fun i=>(env[i]?).join
def bN(fi:AF)(fc:BF)(fe:VF)(cap:List Nat):VF:=fun env=>(fi env).bind fun ds=>if ds.length<1000000 then(gN fc fe (kF cap env) ds).map .lst else none
section
variable{K:W.Frag}{ns:List Str}
theorem yS{L:Addr→Prop}{H1:Hp}{a:Addr}{vs:List V}{ds:List D}(l:L a)(e:H1 a=some (.lst vs))(r:Rds K ns L H1 vs ds):ItP K ns (Itl K a) ds L H1:=by
 intro L2 i H hL hk
 have l2:=hL _ _ e l
 have e2:=hk _ _ e fun _=>l2
 have r2:=r.mono2 hL (H':=H) (fun b o eb hb=>hk b o eb fun z=>hL _ _ eb (hb z))
 refine⟨fun d hd=> ?_,fun hi=>⟨vs,SqL.of e2,by rw[r.len];omega⟩⟩
 obtain⟨v,ev,rv⟩:=r2.get hd
 refine⟨⟨vs,v,SqL.of e2,ev⟩,fun x H' y=> ?_⟩
 obtain⟨rfl,y⟩:=y
 have:=y _ (SqL.of e2)
 rw[ev] at this
 cases this
 exact⟨Same.refl _,rv.nw⟩
theorem De{L:Addr→Prop}{H1:Hp}{a:Addr}{vs:List V}{ds:List D}(e:FZ K H1 a vs)(r:Rds K ns L H1 vs ds):ItP K ns (Itl K a) ds L H1:=by
 intro L2 i H hL hk
 have e2:=e.mono hk
 have r2:=r.mono2 hL (H':=H) (fun b o eb hb=>hk b o eb fun z=>hL _ _ eb (hb z))
 refine⟨fun d hd=> ?_,fun hi=>⟨vs,SqL.fz e2,by rw[r.len];omega⟩⟩
 obtain⟨v,ev,rv⟩:=r2.get hd
 refine⟨⟨vs,v,SqL.fz e2,ev⟩,fun x H' y=> ?_⟩
 obtain⟨rfl,y⟩:=y
 have:=y _ (SqL.fz e2)
 rw[ev] at this
 cases this
 exact⟨Same.refl _,rv.nw⟩
theorem w9{L:Addr→Prop}{H1:Hp}{a:Addr}{vs:List V}{ds:List D}(e:∀H,KeepL (fun _=>True) H1 H→SqT K H a vs)(e':∀L2 H,KeepL L2 H1 H→SqT K H a vs)(r:Rds K ns L H1 vs ds):ItP K ns (Itt K a) ds L H1:=by
 intro L2 i H hL hk
 have e2:=e' L2 H hk
 have r2:=r.mono2 hL (H':=H) (fun b o eb hb=>hk b o eb fun z=>hL _ _ eb (hb z))
 refine⟨fun d hd=> ?_,fun hi=>⟨vs,e2,by rw[r.len];omega⟩⟩
 obtain⟨v,ev,rv⟩:=r2.get hd
 refine⟨⟨vs,v,e2,ev⟩,fun x H' y=> ?_⟩
 obtain⟨rfl,y⟩:=y
 have:=y _ e2
 rw[ev] at this
 cases this
 exact⟨Same.refl _,rv.nw⟩
theorem BG{L:Addr→Prop}{H1:Hp}{z:Str}:ItP K ns (Its z) (z.cps.toList.map fun c=> .str ⟨#[c]⟩) L H1:=by
 intro L2 i H hL hk
 refine⟨fun d hd=> ?_,fun hi=>by show i=z.cps.size;rw[←hi,List.length_map,Array.length_toList]⟩
 rw[List.getElem?_map] at hd
 obtain⟨c,hc,rfl⟩:=Option.map_eq_some_iff.mp hd
 have hl:=(List.getElem?_eq_some_iff.mp hc).1
 refine⟨by show i<z.cps.size;simpa using hl,fun x H' y=> ?_⟩
 obtain⟨rfl,c',hc',rfl⟩:=y
 rw[hc] at hc'
 cases hc'
 exact⟨Same.refl _, .str _⟩
theorem bf{t:TE}{f:VF}(h:PuE K ns t f):PuI K ns (fun σ H R=>zV K t σ H R∨(Cw K t σ H R∨CY t σ H R)) (itD f):=by
 intro L env σ H R ds he hf k
 obtain⟨d,ed,hf⟩:=bnd hf
 cases d<;>first|(cases hf;done)|skip
 · refine .inr (.inr (h L env σ H _ _ he ed fun v H1 S1 r=> ?_))
   cases hf
   cases r
   exact⟨_,rfl,k _ _ S1 BG⟩
 · refine .inr (.inl (h L env σ H _ _ he ed fun v H1 S1 r=> ?_))
   cases hf
   cases r with
   |tup e r=>exact⟨_,rfl,⟨_,SqT.of e⟩,k _ _ S1 (w9 (fun H hk=>SqT.of (hk _ _ e fun z=>by cases z)) (fun L2 H hk=>SqT.of (hk _ _ e fun z=>by cases z)) r)⟩
 · refine .inr (.inl (h L env σ H _ _ he ed fun v H1 S1 r=> ?_))
   cases hf
   cases r with
   |kt e r=>exact⟨_,rfl,⟨_,SqT.kt e⟩,k _ _ S1 (w9 (fun H hk=>SqT.kt e) (fun L2 H hk=>SqT.kt e) r)⟩
 · refine .inl (h L env σ H _ _ he ed fun v H1 S1 r=> ?_)
   cases hf
   cases r with
   |lst l e r=>exact⟨_,rfl,⟨_,SqL.of e⟩,k _ _ S1 (yS l e r)⟩
 · refine .inl (h L env σ H _ _ he ed fun v H1 S1 r=> ?_)
   cases hf
   cases r with
   |fz e r=>exact⟨_,rfl,⟨_,SqL.fz e⟩,k _ _ S1 (De e r)⟩
theorem BH{L:Addr→Prop}{H1:Hp}{lo:Int}{n:Nat}:ItP K ns (Itr lo n) ((List.range n).map fun(k:Nat)=>D.int (lo+(k:Int))) L H1:=by
 intro L2 i H hL hk
 refine⟨fun d hd=> ?_,fun hi=>by show n≤i;rw[←hi];simp⟩
 rw[List.getElem?_map] at hd
 obtain⟨c,hc,rfl⟩:=Option.map_eq_some_iff.mp hd
 obtain⟨hl,hc⟩:=List.getElem?_eq_some_iff.mp hc
 rw[List.getElem_range] at hc
 subst hc
 refine⟨by show i<n;simpa using hl,fun x H' y=> ?_⟩
 obtain⟨rfl,rfl⟩:=y
 exact⟨Same.refl _, .int _⟩
theorem lj{n:Nat}{t:TA}{f:AF}(h:PuA K ns n t f):PuI K ns (zW t) (iaD iG f):=by
 intro L env σ H R ds he hf k
 obtain⟨as,ea,hf⟩:=bnd hf
 refine h L env σ H _ as he ea fun vs H1 _ S1 r=> ?_
 unfold iG at hf
 split at hf
 · obtain⟨x,rfl,q⟩:=kK r
   cases q
   split at hf
   · rename_i hb
     cases hf
     exact⟨_,rfl,by have:=hb.1;omega,by have:=hb.2;omega,k _ _ S1 BH⟩
   · cases hf
 · cases hf
theorem pM{n:Nat}{t:TA}{f:AF}(h:PuA K ns n t f):PuI K ns (CS K t) (iaD pL f):=by
 intro L env σ H R ds he hf k
 obtain⟨as,ea,hf⟩:=bnd hf
 obtain⟨xs,ys,rfl,hf⟩:=w8 hf
 refine(h L env σ H _ _ he ea fun vs H1 _ S1 r=> ?_)
 obtain⟨x,y,rfl,q,q'⟩:=w5 r
 clear r
 cases hf
 cases q with
 | @lst p us _ l e r=>
   cases q' with
   | @lst p' us' _ l' e' r'=>
     refine⟨_,_,_,_,rfl,SqL.of e,SqL.of e',k _ _ S1 ?_⟩
     intro L2 i H hL hk
     have l2:=hL _ _ e l
     have e2:=hk _ _ e fun _=>l2
     have l2':=hL _ _ e' l'
     have e2':=hk _ _ e' fun _=>l2'
     have kk:KeepL _ H1 H:=fun b o eb hb=>hk b o eb fun z=>hL _ _ eb (hb z)
     have r2:=r.mono2 hL kk
     have r2':=r'.mono2 hL kk
     refine⟨fun d hd=> ?_,fun hi=>⟨us,us',SqL.of e2,SqL.of e2',by unfold lX at hi;rw[List.length_zipWith] at hi;rw[r.len,r'.len];omega⟩⟩
     unfold lX at hd
     rw[List.getElem?_zipWith] at hd
     cases hx:xs[i]? with
     |none=>rw[hx] at hd;cases hd
     |some c=>
      cases hy:ys[i]? with
      |none=>rw[hx,hy] at hd;cases hd
      |some c'=>
       rw[hx,hy] at hd
       cases hd
       obtain⟨v,ev,rv⟩:=r2.get hx
       obtain⟨v',ev',rv'⟩:=r2'.get hy
       refine⟨⟨us,us',SqL.of e2,SqL.of e2',(List.getElem?_eq_some_iff.mp ev).1,(List.getElem?_eq_some_iff.mp ev').1⟩,fun x H' y=> ?_⟩
       obtain⟨T,a,b,hT,rfl,rfl,y,y'⟩:=y
       have h1:=y _ (SqL.of e2)
       have h2:=y' _ (SqL.of e2')
       rw[ev] at h1
       rw[ev'] at h2
       cases h1
       cases h2
       have N:=aV hT (.tup [v,v'])
       exact⟨N, .tup aX (.cons (rv.nw.same N) (.cons (rv'.nw.same N) .nil))⟩
theorem uO{L:Addr→Prop}{env:Env}{σ:St}{H:Hp}{x:V}{d:D}{cap:List Nat}(he:EnvR K ns L env σ H)(hx:Rd K ns L H x d):EnvR K ns L (some d::kF cap env) (m6 cap (some x) σ) H:=by
 intro i d' e
 cases i with
 |zero=>cases e;exact⟨x,rfl,hx⟩
 |succ i=>
  have e':(kF cap env)[i]? =some (some d'):=e
  unfold kF at e'
  rw[List.getElem?_map] at e'
  obtain⟨c,hc,e'⟩:=Option.map_eq_some_iff.mp e'
  cases q:env[c]? with
  |none=>rw[q] at e';cases e'
  |some o=>
   rw[q] at e'
   have e2:o=some d':=e'
   subst e2
   obtain⟨v,hv,r⟩:=he c d' q
   refine⟨v, ?_,r⟩
   show (cap.map fun i=>(σ[i]?).join)[i]? =_
   rw[List.getElem?_map,hc]
   show some ((σ[c]?).join)=_
   rw[hv]
   rfl
theorem EnvR.mono2{L L':Addr→Prop}{env:Env}{σ:St}{H H':Hp}(h:EnvR K ns L env σ H)(hL:∀a o,H a=some o→L a→L' a)(hk:KeepL L H H'):EnvR K ns L' env σ H':=fun i d e=>by
 obtain⟨v,q,r⟩:=h i d e
 exact⟨v,q,r.mono2 hL hk⟩
abbrev Lx(L:Addr→Prop)(H:Hp)(acc:Addr):Addr→Prop:=fun a=>Nw L H a∧a≠acc
theorem fX{wi:TI}{tc:TT}{te:TE}{fi:AF}{fc:BF}{fe:VF}{cap:List Nat}(hi:PuI K ns wi fi)(hc:PuT K ns tc fc)(he:PuE K ns te fe):PuF K ns (wH wi tc te cap) (bN fi fc fe cap):=by
 intro L env σ H Q d hE hf k
 obtain⟨ds,ei,hf⟩:=bnd hf
 split at hf
 case isFalse=>cases hf
 rename_i hn
 obtain⟨out,eo,rfl⟩:=Option.map_eq_some_iff.mp hf
 refine hi L env σ H _ ds hE ei fun J H1 S1 it=> ?_
 intro acc ha
 have hacc:H acc=none:=ie S1 ha
 have E1:EnvR K ns (Lx L H acc) env σ H1:=(hE.mono2 (L':=Lx L H acc) (fun a o e l=>⟨.inl l,aM e hacc⟩) .refl).same S1
 refine⟨fun i m H2=>m=ds.length-i∧i≤ds.length∧Same H1 H2∧∃ys dn h9,H2 acc=some (.lst ys)∧Rds K ns (Lx L H acc) H2 ys dn∧ys.length≤i∧gN fc fe (kF cap env) (ds.drop i)=some h9∧dn++h9=out,⟨_,rfl,Nat.zero_le _,aV ha _,[],[],out,aX, .nil,Nat.le_refl _,by rw[List.drop_zero];exact eo,rfl⟩, ?_⟩
 rintro i m H2 ⟨rfl,hle,S2,ys,dn,h9,ea,rd,hy,ec,ed⟩
 obtain⟨go,stop⟩:=it (Lx L H acc) i H2 (fun a o e l=>⟨l,aM e ha⟩) (.of S2)
 by_cases hlt:i<ds.length
 · obtain⟨g,yl⟩:=go ds[i] (List.getElem?_eq_getElem hlt)
   refine .inr ⟨g,fun x H3 y=> ?_⟩
   obtain⟨S3,rx⟩:=yl x H3 y
   have ea3:=S3 _ _ ea
   have E3:EnvR K ns (Lx L H acc) (some ds[i]::kF cap env) (m6 cap (some x) σ) H3:=uO ((E1.same S2).same S3) (rx.mono2 (fun a o e l=>by
    rcases l with l|l
    · exact l
    · exact⟨.inr (ie (S1.trans S2) l),fun z=>by rw[z,ea] at l;cases l⟩) .refl)
   rw[List.drop_eq_getElem_cons hlt] at ec
   obtain⟨b,eb,ec⟩:=bnd ec
   refine hc _ _ _ _ _ b E3 eb fun H4 S4=> ?_
   have ea4:=S4 _ _ ea3
   cases b with
   |false=>
    rw[if_neg Bool.false_ne_true] at ec ⊢
    exact⟨ds.length-(i+1),by omega,rfl,hlt,S2.trans (S3.trans S4),ys,dn,h9,ea4,rd.same (S3.trans S4),by omega,ec,ed⟩
   |true=>
    rw[if_pos rfl] at ec ⊢
    obtain⟨y,ey,ec⟩:=bnd ec
    obtain⟨rest',er,rfl⟩:=Option.map_eq_some_iff.mp ec
    refine he _ _ _ _ _ y (E3.same S4) ey fun v H5 S5 rv=> ?_
    have ea5:=S5 _ _ ea4
    have SS:=S3.trans (S4.trans S5)
    have up:∀{L3:Addr→Prop},¬L3 acc→KeepL L3 H5 (upd H5 acc (.lst (ys++[v]))):=fun {L3} hl a o e hm=>by
     by_cases z:a=acc
     · subst z
       rw[ea5] at e
       cases e
       exact absurd (hm rfl) hl
     · rw[aR z];exact e
    have rv2:Rd K ns (Lx L H acc) H5 v y:=rv.mono2 (fun a o e l=>by
     rcases l with l|l
     · exact l
     · exact⟨.inr (ie (S1.trans (S2.trans (S3.trans S4))) l),fun z=>by rw[z,ea4] at l;cases l⟩) .refl
    refine⟨ys,ea5,Nat.lt_of_le_of_lt hy (Nat.lt_trans hlt (Nat.lt_trans hn (by decide))),ds.length-(i+1),by omega,rfl,hlt,fun a o e=> ?_,ys++[v],dn++[y],rest',aX, ?_, ?_,er,by rw[←ed];simp⟩
    · rw[aR (aM e ha)]
      exact SS _ _ (S2 _ _ e)
    · exact((rd.same SS).append (.cons rv2 .nil)).mono (fun _ q=>q) (up fun q=>q.2 rfl)
    · rw[List.length_append,List.length_singleton];omega
 · have hi':ds.length=i:=by omega
   refine .inl ⟨stop hi', ?_⟩
   rw[List.drop_of_length_le (by omega)] at ec
   cases ec
   rw[List.append_nil] at ed
   subst ed
   exact k acc ys dn H2 rfl (S1.trans S2) hacc ea rd
end
end PD
namespace PD
open PySem L2
inductive Fr where
 |no|yes|pr
inductive Out where
 |nx (e:Env)|rt (d:D)|bk (e:Env)|ct (e:Env)
abbrev SF:=Env→Option Out
def aD(F G:SF):SF:=fun env=>(F env).bind fun| .nx e=>G e|o=>some o
def nxS:SF:=fun env=>some (.nx env)
def bC(f:VF):SF:=fun env=>(f env).bind fun d=>some (.rt d)
def ifS(c:BF)(F G:SF):SF:=fun env=>(c env).bind fun x=>if x=true then F env else G env
def d7(fl:List Bool)(env:Env):Env:=List.zipWith (fun b o=>if b=true then none else o) fl env
abbrev mk(fl:List Bool){α:Type}(f:Env→α):Env→α:=fun env=>f (d7 fl env)
def aH(i:Nat)(f:VF):SF:=fun env=>(f env).bind fun d=>some (.nx (env.set i (some d)))
def yT(i:Nat)(f:VF):SF:=fun env=>(f env).bind fun d=>if d.flat=true then some (.nx (env.set i (some d))) else none
def gW(i:Nat)(env:Env):Option (List D):=(env[i]?).join.bind fun| .lst xs=>some xs|_=>none
def ft(i:Nat)(f:VF):SF:=fun env=>(f env).bind fun d=>(gW i env).bind fun xs=>if xs.length<1000000 then some (.nx (env.set i (some (.lst (xs++[d]))))) else none
def pN(i:Nat)(f:VF):SF:=fun env=>(f env).bind fun d=>if d.flat=true then(gW i env).bind fun xs=>if xs.length<1000000 then some (.nx (env.set i (some (.lst (xs++[d]))))) else none else none
def tN(i:Nat)(f:VF):SF:=fun env=>(f env).bind fun| .lst ys=>(gW i env).bind fun xs=>if xs.length+ys.length<1000000 then some (.nx (env.set i (some (.lst (xs++ys))))) else none|_=>none
abbrev GF:=D→Env→Option Env
def nmG(i:Nat):GF:=fun d env=>some (env.set i (some d))
def kG:List Nat→List D→Env→Option Env
 |[],[],env=>some env
 |i::is,d::ds,env=>kG is ds (env.set i (some d))
 |_,_,_=>none
def gU(is:List Nat):GF:=fun d env=>match d with
 | .tup ds=>kG is ds env
 | .kt ds=>kG is ds env
 |_=>none
def xa(f:VF)(g:GF):SF:=fun env=>(f env).bind fun d=>(g d env).bind fun e=>some (.nx e)
def bE(g:GF)(b:SF):List D→SF
 |[],env=>some (.nx env)
 |x::xs,env=>(g x env).bind fun e=>(b e).bind fun
  | .nx e=>bE g b xs e
  | .ct e=>bE g b xs e
  | .bk e=>some (.nx e)
  | .rt d=>some (.rt d)
def dD(fi:AF)(g:GF)(b:SF):SF:=fun env=>(fi env).bind fun ds=>bE g b ds env
def whN(c:BF)(b:SF):Nat→SF
 |0,_=>none
 |n+1,env=>(c env).bind fun x=>if x=true then(b env).bind fun
  | .nx e=>whN c b n e
  | .ct e=>whN c b n e
  | .bk e=>some (.nx e)
  | .rt d=>some (.rt d)
  else some (.nx env)
def whS(c:BF)(b:SF):SF:=whN c b 1000000
theorem tO{c:BF}{b:SF}:∀{n m:Nat} {env:Env} {o:Out},whN c b n env=some o→n≤m→whN c b m env=some o
 |0,_,_,_,h,_=>by cases h
 |n+1,0,_,_,_,hm=>by omega
 |n+1,m+1,env,o,h,hm=>by
  rw[whN] at h ⊢
  obtain⟨x,ex,h⟩:=bnd h
  rw[ex]
  show (if x=true then _ else _)=_
  cases x with
  |false=>exact h
  |true=>
   rw[if_pos rfl] at h ⊢
   obtain⟨r,er,h⟩:=bnd h
   rw[er]
   cases r with
   |nx e=>exact tO (n:=n) (m:=m) h (by omega)
   |ct e=>exact tO (n:=n) (m:=m) h (by omega)
   |bk e=>exact h
   |rt d=>exact h
theorem xb{c:BF}{b:SF}{n:Nat}{env:Env}{o:Out}(h:whN c b n env=some o)(hn:n≤1000000:=by omega):whS c b env=some o:=tO h hn
section
variable(K:W.Frag)(ns:List Str)
abbrev Lm(L0:Addr→Prop)(H0:Hp)(O:List (Option Addr)):Addr→Prop:=fun a=>Nw L0 H0 a∧some a∉O
structure Iv(fl:List Bool)(L0:Addr→Prop)(H0:Hp)(O:List (Option Addr))(env:Env)(σ:St)(H:Hp):Prop where
 sm:Same H0 H
 fl:O.map Option.isSome=fl
 ln:σ.length=O.length
 le:env.length=O.length
 rd:∀(i:Nat) (d:D),env[i]? =some (some d)→O[i]? =some none→∃v,σ[i]? =some (some v)∧Rd K ns (Lm L0 H0 O) H v d
 ow:∀(i:Nat) (p:Addr),O[i]? =some (some p)→H0 p=none∧σ[i]? =some (some (.ref p))∧∃o d,env[i]? =some (some d)∧H p=some o∧RdO K ns (Lm L0 H0 O) H o d
 inj:∀(i j:Nat) (p:Addr),O[i]? =some (some p)→O[j]? =some (some p)→i=j
structure Step(O:List (Option Addr))(H:Hp)(O':List (Option Addr))(H':Hp):Prop where
 ow:∀p,some p∈O'→some p∈O∨H p=none
 kp:∀a o,H a=some o→some a∉O→H' a=some o
 dm:∀a,H' a=none→H a=none
def Res(fr:Fr)(L0:Addr→Prop)(H0 H':Hp)(v:V)(d:D):Prop:=match fr with
 | .no=>Rd K ns (Nw L0 H0) H' v d
 | .yes=>∃p us ds,v= .ref p∧d= .lst ds∧H0 p=none∧H' p=some (.lst us)∧Rds K ns (fun a=>Nw L0 H0 a∧a≠p) H' us ds
 | .pr=>∃t p us ds v2 d2,v= .ref t∧d= .tup [.lst ds,d2]∧H' t=some (.tup [.ref p,v2])∧H0 p=none∧H' p=some (.lst us)∧Rds K ns (fun a=>Nw L0 H0 a∧a≠p) H' us ds∧Rd K ns (fun _=>False) H' v2 d2
def Fin(fr:Fr)(lf fl:List Bool)(L0:Addr→Prop)(H0:Hp)(O:List (Option Addr))(H:Hp)(E:Ends):Option Out→Prop
 |some (.nx e)=>∀O' σ' H',Step O H O' H'→Iv K ns fl L0 H0 O' e σ' H'→E.nx σ' H'
 |some (.bk e)=>∀O' σ' H',Step O H O' H'→Iv K ns lf L0 H0 O' e σ' H'→E.bk σ' H'
 |some (.ct e)=>∀O' σ' H',Step O H O' H'→Iv K ns lf L0 H0 O' e σ' H'→E.ct σ' H'
 |some (.rt d)=>∀v H',Same H0 H'→Res K ns fr L0 H0 H' v d→E.rt v H'
 |none=>False
def PuS(fr:Fr)(lf fl:List Bool)(t:TS)(F:SF)(fl':List Bool):Prop:=∀(L0:Addr→Prop) (H0:Hp) (O:List (Option Addr)) (env:Env) (σ:St) (H:Hp) (E:Ends),Iv K ns fl L0 H0 O env σ H→Fin K ns fr lf fl' L0 H0 O H E (F env)→t E σ H
def PuG(fl:List Bool)(g:TG)(G:GF):Prop:=∀(L0:Addr→Prop) (H0:Hp) (O:List (Option Addr)) (env e:Env) (σ:St) (H:Hp) (x:V) (d:D) (Q:St→Hp→Prop),Iv K ns fl L0 H0 O env σ H→Rd K ns (Lm L0 H0 O) H x d→G d env=some e→(∀σ',Iv K ns fl L0 H0 O e σ' H→Q σ' H)→g x σ H Q
end
section
variable{K:W.Frag}{ns:List Str}{fr:Fr}{lf fl fl' fl'':List Bool}{L0:Addr→Prop}{H0 H H' H'':Hp}{O O' O'':List (Option Addr)}{env:Env}{σ:St}
theorem Step.refl:Step O H O H:=⟨fun _ h=> .inl h,fun _ _ e _=>e,fun _ h=>h⟩
theorem Step.trans(a:Step O H O' H')(b:Step O' H' O'' H''):Step O H O'' H'' where
 ow p h:=by
  rcases b.ow p h with h|h
  · exact a.ow p h
  · exact .inr (a.dm _ h)
 kp c o e h:=b.kp c o (a.kp c o e h) fun q=>by
  rcases a.ow c q with q|q
  · exact h q
  · rw[e] at q;cases q
 dm c h:=a.dm c (b.dm c h)
theorem Step.same(S:Same H H'):Step O H O H':=⟨fun _ h=> .inl h,fun _ _ e _=>S _ _ e,fun _ h=>ie S h⟩
theorem Iv.same(I:Iv K ns fl L0 H0 O env σ H)(S:Same H H'):Iv K ns fl L0 H0 O env σ H' where
 sm:=I.sm.trans S
 fl:=I.fl
 ln:=I.ln
 le:=I.le
 rd i d e h:=by
  obtain⟨v,q,r⟩:=I.rd i d e h
  exact⟨v,q,r.same S⟩
 ow i p h:=by
  obtain⟨h0,q,vs,ds,e,hp,r⟩:=I.ow i p h
  exact⟨h0,q,vs,ds,e,S _ _ hp,r.same S⟩
 inj:=I.inj
theorem Iv.own_in(I:Iv K ns fl L0 H0 O env σ H){p:Addr}(h:some p∈O):∃o,H p=some o∧wU o=true:=by
 obtain⟨i,hi,e⟩:=List.getElem_of_mem h
 obtain⟨_,_,vs,_,_,hp,hr⟩:=I.ow i p (by rw[List.getElem?_eq_getElem hi,e])
 exact⟨vs,hp,hr.mut⟩
theorem Iv.new_m(I:Iv K ns fl L0 H0 O env σ H){a:Addr}(h:H a=none):Lm L0 H0 O a:=⟨.inr (ie I.sm h),fun q=>by
 obtain⟨vs,e,_⟩:=I.own_in q
 rw[h] at e
 cases e⟩
theorem Iv.nwm(I:Iv K ns fl L0 H0 O env σ H){a:Addr}(h:Nw (Lm L0 H0 O) H a):Lm L0 H0 O a:=h.elim id I.new_m
theorem Iv.weak(I:Iv K ns fl L0 H0 O env σ H):EnvR K ns (Nw L0 H0) env σ H:=fun i d e=>by
 have hi:i<O.length:=by rw[←I.le];exact(List.getElem?_eq_some_iff.mp e).1
 cases q:O[i]? with
 |none=>rw[List.getElem?_eq_getElem hi] at q;cases q
 |some o=>
  cases o with
  |none=>
   obtain⟨v,hv,r⟩:=I.rd i d e q
   exact⟨v,hv,r.mono (fun _ z=>z.1) .refl⟩
  |some p=>
   obtain⟨h0,hs,vs,ds,e',hp,r⟩:=I.ow i p q
   rw[e] at e'
   cases e'
   exact⟨_,hs,(r.mono (fun _ z=>z.1) .refl).rd (.inr h0) hp⟩
theorem xc{i:Nat}{d:D}(h:(d7 fl env)[i]? =some (some d)):fl[i]? =some false∧env[i]? =some (some d):=by
 unfold d7 at h
 rw[List.getElem?_zipWith] at h
 cases e1:fl[i]? with
 |none=>rw[e1] at h;cases h
 |some b=>
  cases e2:env[i]? with
  |none=>rw[e1,e2] at h;cases h
  |some o=>
   rw[e1,e2] at h
   cases b with
   |true=>cases h
   |false=>exact⟨rfl,by cases h;rfl⟩
theorem Iv.flag(I:Iv K ns fl L0 H0 O env σ H){i:Nat}{b:Bool}(h:fl[i]? =some b):∃o,O[i]? =some o∧o.isSome=b:=by
 rw[←I.fl,List.getElem?_map] at h
 obtain⟨o,ho,e⟩:=Option.map_eq_some_iff.mp h
 exact⟨o,ho,e⟩
theorem Iv.free(I:Iv K ns fl L0 H0 O env σ H){i:Nat}(h:fl[i]? =some false):O[i]? =some none:=by
 obtain⟨o,ho,e⟩:=I.flag h
 cases o with
 |none=>exact ho
 |some p=>cases e
theorem Iv.owned(I:Iv K ns fl L0 H0 O env σ H){i:Nat}(h:fl[i]? =some true):∃p,O[i]? =some (some p):=by
 obtain⟨o,ho,e⟩:=I.flag h
 cases o with
 |none=>cases e
 |some p=>exact⟨p,ho⟩
theorem Iv.strict(I:Iv K ns fl L0 H0 O env σ H):EnvR K ns (Lm L0 H0 O) (d7 fl env) σ H:=fun i d e=>by
 obtain⟨h1,h2⟩:=xc e
 exact I.rd i d h2 (I.free h1)
theorem jo{i:Nat}{a:Addr}(h:some a∈O.set i none):some a∈O:=by
 rcases List.mem_or_eq_of_mem_set h with q|q
 · exact q
 · cases q
theorem Iv.store(I:Iv K ns fl L0 H0 O env σ H){i:Nat}{v:V}{d:D}(r:Rd K ns (Lm L0 H0 O) H v d):Iv K ns (fl.set i false) L0 H0 (O.set i none) (env.set i (some d)) (σ.set i (some v)) H:=by
 have up:∀a,Lm L0 H0 O a→Lm L0 H0 (O.set i none) a:=fun a h=>⟨h.1,fun q=>h.2 (jo q)⟩
 refine⟨I.sm,by rw[←I.fl,List.map_set];rfl,by simp[I.ln],by simp[I.le],fun j d' e h=> ?_,fun j p h=> ?_,fun j k p h1 h2=> ?_⟩
 · rw[List.getElem?_set] at e
   rw[List.getElem?_set]
   split at e
   · rename_i z
     rw[if_pos z]
     split at e
     · rename_i hl
       cases e
       rw[if_pos (by rw[I.ln,←I.le];exact hl)]
       exact⟨v,rfl,r.mono up .refl⟩
     · cases e
   · rename_i z
     rw[if_neg z]
     rw[List.getElem?_set,if_neg z] at h
     obtain⟨v',q,r'⟩:=I.rd j d' e h
     exact⟨v',q,r'.mono up .refl⟩
 · rw[List.getElem?_set] at h
   split at h
   · split at h<;>cases h
   · rename_i z
     obtain⟨h0,hs,vs,ds,e,hp,r'⟩:=I.ow j p h
     exact⟨h0,by rw[List.getElem?_set,if_neg z];exact hs,vs,ds,by rw[List.getElem?_set,if_neg z];exact e,hp,r'.mono up .refl⟩
 · rw[List.getElem?_set] at h1 h2
   split at h1
   · split at h1<;>cases h1
   · split at h2
     · split at h2<;>cases h2
     · exact I.inj j k p h1 h2
theorem Iv.give(I:Iv K ns fl L0 H0 O env σ H)(i:Nat):Iv K ns (fl.set i false) L0 H0 (O.set i none) env σ H:=by
 have up:∀a,Lm L0 H0 O a→Lm L0 H0 (O.set i none) a:=fun a h=>⟨h.1,fun q=>h.2 (jo q)⟩
 refine⟨I.sm,by rw[←I.fl,List.map_set];rfl,by simp[I.ln],by simp[I.le],fun j d' e h=> ?_,fun j p h=> ?_,fun j k p h1 h2=> ?_⟩
 · have hj:j<O.length:=by rw[←I.le];exact(List.getElem?_eq_some_iff.mp e).1
   cases q:O[j]? with
   |none=>rw[List.getElem?_eq_getElem hj] at q;cases q
   |some o=>
    cases o with
    |none=>
     obtain⟨v',q,r'⟩:=I.rd j d' e q
     exact⟨v',q,r'.mono up .refl⟩
    |some p=>
     obtain⟨h0,hs,vs,ds,e',hp,r⟩:=I.ow j p q
     rw[e] at e'
     cases e'
     refine⟨_,hs,(r.mono up .refl).rd ⟨.inr h0,fun z=> ?_⟩ hp⟩
     obtain⟨k,hk,ek⟩:=List.getElem_of_mem z
     have hk':(O.set i none)[k]? =some (some p):=by rw[List.getElem?_eq_getElem hk,ek]
     rw[List.getElem?_set] at hk'
     split at hk'
     · split at hk'<;>cases hk'
     · rename_i hik
       have:=I.inj j k p q hk'
       subst this
       rw[List.getElem?_set,if_neg hik,q] at h
       cases h
 · rw[List.getElem?_set] at h
   split at h
   · split at h<;>cases h
   · obtain⟨h0,hs,vs,ds,e,hp,r'⟩:=I.ow j p h
     exact⟨h0,hs,vs,ds,e,hp,r'.mono up .refl⟩
 · rw[List.getElem?_set] at h1 h2
   split at h1
   · split at h1<;>cases h1
   · split at h2
     · split at h2<;>cases h2
     · exact I.inj j k p h1 h2
theorem Step.give(i:Nat):Step O H (O.set i none) H:=⟨fun _ h=> .inl (jo h),fun _ _ e _=>e,fun _ h=>h⟩
theorem Iv.takeO(I:Iv K ns fl L0 H0 O env σ H){i:Nat}{p:Addr}{vs:HO}{ds:D}(S:Same H H')(hp:H p=none)(e:H' p=some vs)(r:RdO K ns (fun a=>Nw (Lm L0 H0 O) H a∧a≠p) H' vs ds)(hi:i<O.length):
 Iv K ns (fl.set i true) L0 H0 (O.set i (some p)) (env.set i (some ds)) (σ.set i (some (.ref p))) H':=by
 have up:∀a o,H a=some o→Lm L0 H0 O a→Lm L0 H0 (O.set i (some p)) a:=fun a o ea h=>⟨h.1,fun q=>by
  rcases List.mem_or_eq_of_mem_set q with q|q
  · exact h.2 q
  · cases q
    rw[hp] at ea
    cases ea⟩
 have np:some p∉O:=fun q=>by
  obtain⟨vs,e,_⟩:=I.own_in q
  rw[hp] at e
  cases e
 refine⟨I.sm.trans S,by rw[←I.fl,List.map_set];rfl,by simp[I.ln],by simp[I.le],fun j d' e' h=> ?_,fun j p' h=> ?_,fun j k p' h1 h2=> ?_⟩
 · by_cases z:i=j
   · subst z
     rw[List.getElem?_set,if_pos rfl,if_pos hi] at h
     cases h
   · rw[List.getElem?_set,if_neg z] at h
     rw[List.getElem?_set,if_neg z] at e' ⊢
     obtain⟨v',q,r'⟩:=I.rd j d' e' h
     exact⟨v',q,r'.mono2 up (.of S)⟩
 · by_cases z:i=j
   · subst z
     rw[List.getElem?_set,if_pos rfl,if_pos hi] at h
     cases h
     refine⟨ie I.sm hp,by rw[List.getElem?_set,if_pos rfl,if_pos (by rw[I.ln];exact hi)],vs,ds,by rw[List.getElem?_set,if_pos rfl,if_pos (by rw[I.le];exact hi)],e,r.mono (fun a q=> ?_) .refl⟩
     have:=I.nwm q.1
     refine⟨this.1,fun z=> ?_⟩
     rcases List.mem_or_eq_of_mem_set z with z|z
     · exact this.2 z
     · cases z
       exact q.2 rfl
   · rw[List.getElem?_set,if_neg z] at h
     obtain⟨h0,hs,us,es,e',hp',r'⟩:=I.ow j p' h
     exact⟨h0,by rw[List.getElem?_set,if_neg z];exact hs,us,es,by rw[List.getElem?_set,if_neg z];exact e',S _ _ hp',r'.mono2 up (.of S)⟩
 · rw[List.getElem?_set] at h1 h2
   by_cases zj:i=j
   · subst zj
     rw[if_pos rfl,if_pos hi] at h1
     cases h1
     by_cases zk:i=k
     · exact zk
     · rw[if_neg zk] at h2
       exact absurd (List.mem_of_getElem? h2) np
   · rw[if_neg zj] at h1
     by_cases zk:i=k
     · subst zk
       rw[if_pos rfl,if_pos hi] at h2
       cases h2
       exact absurd (List.mem_of_getElem? h1) np
     · rw[if_neg zk] at h2
       exact I.inj j k p' h1 h2
theorem Iv.take(I:Iv K ns fl L0 H0 O env σ H){i:Nat}{p:Addr}{vs:List V}{ds:List D}(S:Same H H')(hp:H p=none)(e:H' p=some (.lst vs))(r:Rds K ns (fun a=>Nw (Lm L0 H0 O) H a∧a≠p) H' vs ds)(hi:i<O.length):
 Iv K ns (fl.set i true) L0 H0 (O.set i (some p)) (env.set i (some (.lst ds))) (σ.set i (some (.ref p))) H':=I.takeO (vs:= .lst vs) (ds:= .lst ds) S hp e r hi
theorem Step.take{i:Nat}{p:Addr}(S:Same H H')(hp:H p=none):Step O H (O.set i (some p)) H':=⟨fun q h=>by
 rcases List.mem_or_eq_of_mem_set h with h|h
 · exact .inl h
 · cases h
   exact .inr hp,fun _ _ e _=>S _ _ e,fun _ h=>ie S h⟩
theorem Iv.alterO(I:Iv K ns fl L0 H0 O env σ H){i:Nat}{p:Addr}{vs:HO}{ds:D}(ho:O[i]? =some (some p))(r:RdO K ns (Lm L0 H0 O) H vs ds):
 Iv K ns fl L0 H0 O (env.set i (some ds)) σ (upd H p vs):=by
 obtain⟨h0,hs,us,es,e,hp,ru⟩:=I.ow i p ho
 have np:¬Lm L0 H0 O p:=fun q=>q.2 (List.mem_of_getElem? ho)
 have kp:KeepL (Lm L0 H0 O) H (upd H p vs):=fun a o ea hm=>by
  by_cases z:a=p
  · subst z
    rw[hp] at ea
    cases ea
    exact absurd (hm ru.mut) np
  · rw[aR z];exact ea
 refine⟨fun b o eb=> ?_,I.fl,I.ln,by simp[I.le],fun j d' e' h=> ?_,fun j p' h=> ?_,I.inj⟩
 · rw[aR (aM eb h0)]
   exact I.sm _ _ eb
 · rw[List.getElem?_set] at e'
   split at e'
   · rename_i z
     subst z
     rw[ho] at h
     cases h
   · obtain⟨v',q,r'⟩:=I.rd j d' e' h
     exact⟨v',q,r'.mono (fun _ q=>q) kp⟩
 · obtain⟨h0',hs',us',es',e2,hp',r'⟩:=I.ow j p' h
   by_cases z:i=j
   · subst z
     rw[ho] at h
     cases h
     exact⟨h0,hs,vs,ds,by rw[List.getElem?_set,if_pos rfl,if_pos (List.getElem?_eq_some_iff.mp e).1],aX,r.mono (fun _ q=>q) kp⟩
   · have pp:p'≠p:=fun q=>by
      subst q
      exact z (I.inj i j p' ho h)
     exact⟨h0',hs',us',es',by rw[List.getElem?_set,if_neg z];exact e2,by rw[aR pp];exact hp',r'.mono (fun _ q=>q) kp⟩
theorem Iv.alter(I:Iv K ns fl L0 H0 O env σ H){i:Nat}{p:Addr}{vs:List V}{ds:List D}(ho:O[i]? =some (some p))(r:Rds K ns (Lm L0 H0 O) H vs ds):
 Iv K ns fl L0 H0 O (env.set i (some (.lst ds))) σ (upd H p (.lst vs)):=I.alterO (vs:= .lst vs) (ds:= .lst ds) ho r
theorem Step.alter{p:Addr}{vs:HO}(h:some p∈O):Step O H O (upd H p vs):=⟨fun _ q=> .inl q,fun a o e hn=>by rw[aR fun z=>hn (by rw[z];exact h)];exact e,fun a q=>by
 by_cases z:a=p
 · subst z
   rw[aX] at q
   cases q
 · rw[aR z] at q
   exact q⟩
theorem Fin.mono{E E':Ends}{o:Option Out}(T:Step O H O' H')(h:Fin K ns fr lf fl' L0 H0 O H E o)(hr:E.rt=E'.rt)(hn:E.nx=E'.nx)(hb:E.bk=E'.bk)(hc:E.ct=E'.ct):Fin K ns fr lf fl' L0 H0 O' H' E' o:=by
 cases o with
 |none=>exact h
 |some o=>
  cases o with
  |nx e=>intro O2 σ2 H2 T2 I2;rw[←hn];exact h O2 σ2 H2 (T.trans T2) I2
  |rt d=>intro v H2 S2 r2;rw[←hr];exact h v H2 S2 r2
  |bk e=>intro O2 σ2 H2 T2 I2;rw[←hb];exact h O2 σ2 H2 (T.trans T2) I2
  |ct e=>intro O2 σ2 H2 T2 I2;rw[←hc];exact h O2 σ2 H2 (T.trans T2) I2
theorem ax{t u:TS}{F G:SF}(a:PuS K ns fr lf fl t F fl')(b:PuS K ns fr lf fl' u G fl''):PuS K ns fr lf fl (AQ t u) (aD F G) fl'':=by
 intro L0 H0 O env σ H E I h
 refine a L0 H0 O env σ H _ I ?_
 unfold aD at h
 cases e:F env with
 |none=>rw[e] at h;exact h
 |some o=>
  rw[e] at h
  cases o with
  |nx e2=>exact fun O' σ' H' T I'=>b L0 H0 O' e2 σ' H' E I' (Fin.mono T h rfl rfl rfl rfl)
  |rt d=>exact h
  |bk e=>exact h
  |ct e=>exact h
theorem bL:PuS K ns fr lf fl zU nxS fl:=fun L0 H0 O env σ H E I h=>h O σ H .refl I
def gives:List Nat→List Bool→List Bool
 |[],fl=>fl
 |i::r,fl=>gives r (fl.set i false)
theorem Iv.gives:∀(is:List Nat) {fl:List Bool} {O:List (Option Addr)},Iv K ns fl L0 H0 O env σ H→∃O',Step O H O' H∧Iv K ns (gives is fl) L0 H0 O' env σ H
 |[],_,O,I=>⟨O, .refl,I⟩
 |i::r,_,O,I=>by
  obtain⟨O',T,I'⟩:=Iv.gives r (I.give i)
  exact⟨O',(Step.give i).trans T,I'⟩
theorem Ah(is:List Nat){t:TS}{F:SF}(a:PuS K ns fr lf (gives is fl) t F fl'):PuS K ns fr lf fl t F fl':=by
 intro L0 H0 O env σ H E I h
 obtain⟨O2,T2,I2⟩:=I.gives is
 exact a L0 H0 O2 env σ H E I2 (Fin.mono T2 h rfl rfl rfl rfl)
theorem bG{t:TE}{f:VF}(h:PuE K ns t f):PuS K ns .no lf fl (yn t) (bC f) fl':=by
 intro L0 H0 O env σ H E I k
 unfold bC at k
 cases e:f env with
 |none=>rw[e] at k;exact k.elim
 |some d=>
  rw[e] at k
  exact h _ env σ H _ d I.weak e fun v H' S r=>k v H' (I.sm.trans S) (r.mono (fun _ q=>nw2 I.sm q) .refl)
theorem lY{t:TE}{f:VF}(h:PuF K ns t f):PuS K ns .yes lf fl (yn t) (bC f) fl':=by
 intro L0 H0 O env σ H E I k
 unfold bC at k
 cases e:f env with
 |none=>rw[e] at k;exact k.elim
 |some d=>
  rw[e] at k
  exact h _ env σ H _ d I.weak e fun p vs ds H' ed S hp hl r=>k _ H' (I.sm.trans S) ⟨p,vs,ds,rfl,ed,ie I.sm hp,hl,r.mono (fun _ q=>⟨nw2 I.sm q.1,q.2⟩) .refl⟩
def ky(i:Nat):SF:=fun env=>(gW i env).bind fun xs=>some (.rt (.lst xs))
theorem gh(i:Nat)(hi:fl[i]? =some true):PuS K ns .yes lf fl (yn (oY i)) (ky i) fl':=by
 intro L0 H0 O env σ H E I k
 obtain⟨p,ho⟩:=I.owned hi
 obtain⟨h0,hs,o,d,e,hp,r⟩:=I.ow i p ho
 unfold ky gW at k
 rw[e] at k
 rcases r.case with⟨vs,ds,rfl,rfl,r⟩|⟨kvs,ds,rfl,rfl,r⟩|⟨kvs,ds,rfl,rfl,r⟩
 rotate_left
 · exact k.elim
 · exact k.elim
 exact⟨_,hs,k _ H I.sm ⟨p,vs,ds,rfl,rfl,h0,hp,r.mono (fun a q=>⟨q.1,fun z=>q.2 (z▸List.mem_of_getElem? ho)⟩) .refl⟩⟩
theorem gd{c:TT}{t u:TS}{fc:BF}{F G:SF}(h:PuT K ns c fc)(a:PuS K ns fr lf fl t F fl')(b:PuS K ns fr lf fl u G fl'):PuS K ns fr lf fl (Cu c t u) (ifS fc F G) fl':=by
 intro L0 H0 O env σ H E I k
 unfold ifS at k
 cases e:fc env with
 |none=>rw[e] at k;exact k.elim
 |some x=>
  rw[e] at k
  refine h _ env σ H _ x I.weak e fun H' S=> ?_
  cases x with
  |true=>
   rw[if_pos rfl]
   exact a _ _ _ _ _ _ _ (I.same S) (Fin.mono (.same S) k rfl rfl rfl rfl)
  |false=>
   rw[if_neg Bool.false_ne_true]
   exact b _ _ _ _ _ _ _ (I.same S) (Fin.mono (.same S) k rfl rfl rfl rfl)
theorem aO(i:Nat){t:TE}{f:VF}(h:PuE K ns t f):PuS K ns fr lf fl (qP t (jI i)) (aH i (mk fl f)) (fl.set i false):=by
 intro L0 H0 O env σ H E I k
 unfold aH mk at k
 cases e:f (d7 fl env) with
 |none=>rw[e] at k;exact k.elim
 |some d=>
  rw[e] at k
  refine h _ (d7 fl env) σ H _ d I.strict e fun v H' S r=> ?_
  exact k _ _ H' ((Step.same S).trans (.give i)) ((I.same S).store (r.mono (fun _ q=>I.nwm q) .refl))
theorem BI(i:Nat){t:TE}{f:VF}(h:PuE K ns t f):PuS K ns fr lf fl (qP t (jI i)) (yT i f) (fl.set i false):=by
 intro L0 H0 O env σ H E I k
 unfold yT at k
 cases e:f env with
 |none=>rw[e] at k;exact k.elim
 |some d=>
  rw[e] at k
  refine h _ env σ H _ d I.weak e fun v H' S r=> ?_
  have k':Fin K ns fr lf (fl.set i false) L0 H0 O H E (if d.flat=true then some (.nx (env.set i (some d))) else none):=k
  by_cases hd:d.flat=true
  · rw[if_pos hd] at k'
    exact k' _ _ H' ((Step.same S).trans (.give i)) ((I.same S).store (r.flat hd))
  · rw[if_neg hd] at k'
    exact k'.elim
theorem ik(i:Nat){t:TE}{f:VF}(h:PuF K ns t f)(hi:i<fl.length):PuS K ns fr lf fl (qP t (jI i)) (aH i (mk fl f)) (fl.set i true):=by
 intro L0 H0 O env σ H E I k
 unfold aH mk at k
 cases e:f (d7 fl env) with
 |none=>rw[e] at k;exact k.elim
 |some d=>
  rw[e] at k
  refine h _ (d7 fl env) σ H _ d I.strict e fun p vs ds H' ed S hp hl r=> ?_
  subst ed
  exact k _ _ H' (.take S hp) (I.take S hp hl r (by rw[←I.fl,List.length_map] at hi;exact hi))
theorem tP(I:Iv K ns fl L0 H0 O env σ H){i:Nat}(hi:fl[i]? =some true):gW i env=none∨∃p vs ds,O[i]? =some (some p)∧σ[i]? =some (some (.ref p))∧gW i env=some ds∧H p=some (.lst vs)∧Rds K ns (Lm L0 H0 O) H vs ds:=by
 obtain⟨p,ho⟩:=I.owned hi
 obtain⟨h0,hs,o,d,e,hp,r⟩:=I.ow i p ho
 rcases r.case with⟨vs,ds,rfl,rfl,r⟩|⟨kvs,ds,rfl,rfl,r⟩|⟨kvs,ds,rfl,rfl,r⟩
 · exact .inr ⟨p,vs,ds,ho,hs,by unfold gW;rw[e];rfl,hp,r⟩
 · exact .inl (by unfold gW;rw[e];rfl)
 · exact .inl (by unfold gW;rw[e];rfl)
theorem Fin.no{E:Ends}{A:Prop}{o:Option Out}(h:Fin K ns fr lf fl L0 H0 O H E o)(e:o=none):A:=by subst e;exact h.elim
theorem yU{α β:Type}{o:Option α}:(o.bind fun _=>(none:Option β))=none:=by cases o<;>rfl
theorem jJ(i:Nat){t:TE}{f:VF}(h:PuE K ns t f)(hi:fl[i]? =some true):PuS K ns fr lf fl (ut (tBM K "list" pj (oY i) (kC t qU))) (ft i (mk fl f)) fl:=by
 intro L0 H0 O env σ H E I k
 rcases tP I hi with hn|⟨p,vs,ds,ho,hs,hd,hp,r⟩
 · exact Fin.no k (by unfold ft;rw[hn];exact yU)
 unfold ft mk at k
 cases e:f (d7 fl env) with
 |none=>rw[e] at k;exact k.elim
 |some d=>
  rw[e] at k
  have k':Fin K ns fr lf fl L0 H0 O H E ((gW i env).bind fun xs=>if xs.length<1000000 then some (.nx (env.set i (some (.lst (xs++[d]))))) else none):=k
  rw[hd] at k'
  have k2:Fin K ns fr lf fl L0 H0 O H E (if ds.length<1000000 then some (.nx (env.set i (some (.lst (ds++[d]))))) else none):=k'
  by_cases hl:ds.length<1000000
  · rw[if_pos hl] at k2
    refine⟨_,hs, .inl ⟨rfl,_,SqL.of hp⟩,h _ (d7 fl env) σ H _ d I.strict e fun v H' S rv=>⟨p,vs,v,rfl,rfl,S _ _ hp,by rw[r.len];exact Nat.lt_trans hl (by decide), ?_⟩⟩
    have I':=I.same S
    exact k2 _ _ _ ((Step.same S).trans (.alter (List.mem_of_getElem? ho))) (I'.alter ho ((r.same S).append (.cons (rv.mono (fun _ q=>I.nwm q) .refl) .nil)))
  · rw[if_neg hl] at k2
    exact k2.elim
theorem BJ(i:Nat){t:TE}{f:VF}(h:PuE K ns t f)(hi:fl[i]? =some true):PuS K ns fr lf fl (ut (tBM K "list" pj (oY i) (kC t qU))) (pN i f) fl:=by
 intro L0 H0 O env σ H E I k
 rcases tP I hi with hn|⟨p,vs,ds,ho,hs,hd,hp,r⟩
 · exact Fin.no k (by unfold pN;rw[hn];cases f env with|none=>rfl|some d=>exact ite_self none)
 unfold pN at k
 cases e:f env with
 |none=>rw[e] at k;exact k.elim
 |some d=>
  rw[e] at k
  have k':Fin K ns fr lf fl L0 H0 O H E (if d.flat=true then(gW i env).bind fun xs=>if xs.length<1000000 then some (.nx (env.set i (some (.lst (xs++[d]))))) else none else none):=k
  by_cases hfl:d.flat=true
  · rw[if_pos hfl,hd] at k'
    have k2:Fin K ns fr lf fl L0 H0 O H E (if ds.length<1000000 then some (.nx (env.set i (some (.lst (ds++[d]))))) else none):=k'
    by_cases hl:ds.length<1000000
    · rw[if_pos hl] at k2
      refine⟨_,hs, .inl ⟨rfl,_,SqL.of hp⟩,h _ env σ H _ d I.weak e fun v H' S rv=>⟨p,vs,v,rfl,rfl,S _ _ hp,by rw[r.len];exact Nat.lt_trans hl (by decide), ?_⟩⟩
      have I':=I.same S
      exact k2 _ _ _ ((Step.same S).trans (.alter (List.mem_of_getElem? ho))) (I'.alter ho ((r.same S).append (.cons (rv.flat hfl) .nil)))
    · rw[if_neg hl] at k2
      exact k2.elim
  · rw[if_neg hfl] at k'
    exact k'.elim
theorem Df(i:Nat){t:TE}{f:VF}(h:PuE K ns t f)(hi:fl[i]? =some true):PuS K ns fr lf fl (ut (tBM K "list" uC (oY i) (kC t qU))) (tN i (mk fl f)) fl:=by
 intro L0 H0 O env σ H E I k
 rcases tP I hi with hn|⟨p,vs,ds,ho,hs,hd,hp,r⟩
 · exact Fin.no k (by unfold tN;rw[hn];cases mk fl f env with|none=>rfl|some d=>cases d<;>rfl)
 unfold tN mk at k
 cases e:f (d7 fl env) with
 |none=>rw[e] at k;exact k.elim
 |some d=>
  rw[e] at k
  cases d<;>first|(exact k.elim)|skip
  rename_i ys
  have k':Fin K ns fr lf fl L0 H0 O H E ((gW i env).bind fun xs=>if xs.length+ys.length<1000000 then some (.nx (env.set i (some (.lst (xs++ys))))) else none):=k
  rw[hd] at k'
  have k2:Fin K ns fr lf fl L0 H0 O H E (if ds.length+ys.length<1000000 then some (.nx (env.set i (some (.lst (ds++ys))))) else none):=k'
  by_cases hl:ds.length+ys.length<1000000
  · rw[if_pos hl] at k2
    refine⟨_,hs, .inl ⟨rfl,_,SqL.of hp⟩,h _ (d7 fl env) σ H _ _ I.strict e fun v H' S rv=> ?_⟩
    cases rv with
    |lst l eb rb=>
     refine⟨p,_,vs,_,rfl,rfl,S _ _ hp,eb,by rw[r.len,rb.len];exact Nat.le_of_lt (Nat.lt_trans hl (by decide)), ?_⟩
     have I':=I.same S
     exact k2 _ _ _ ((Step.same S).trans (.alter (List.mem_of_getElem? ho))) (I'.alter ho ((r.same S).append (rb.mono (fun _ q=>I.nwm q) .refl)))
  · rw[if_neg hl] at k2
    exact k2.elim
theorem jR{α:Type}:∀{l:List α} {i:Nat} {x:α},l[i]? =some x→l.set i x=l
 |[],_,_,h=>by simp at h
 |_::_,0,_,h=>by cases h;rfl
 |_::l,i+1,_,h=>congrArg _ (jR (l:=l) (i:=i) h)
theorem cH(i:Nat)(hi:fl[i]? =some false):PuG K ns fl (jI i) (nmG i):=by
 intro L0 H0 O env e σ H x d Q I r hg k
 cases hg
 have ho:=I.free hi
 have:=I.store (i:=i) r
 have e1:fl.set i false=fl:=jR hi
 have e2:O.set i none=O:=jR ho
 rw[e1,e2] at this
 exact k _ this
theorem Ai{t:TE}{f:VF}{g:TG}{G:GF}(h:PuE K ns t f)(hg:PuG K ns fl g G):PuS K ns fr lf fl (qP t g) (xa (mk fl f) G) fl:=by
 intro L0 H0 O env σ H E I k
 unfold xa mk at k
 cases e:f (d7 fl env) with
 |none=>rw[e] at k;exact k.elim
 |some d=>
  rw[e] at k
  have k':Fin K ns fr lf fl L0 H0 O H E ((G d env).bind fun e=>some (.nx e)):=k
  cases e2:G d env with
  |none=>rw[e2] at k';exact k'.elim
  |some en=>
   rw[e2] at k'
   refine h _ (d7 fl env) σ H _ d I.strict e fun v H' S r=> ?_
   exact hg L0 H0 O env en σ H' v d _ (I.same S) (r.mono (fun _ q=>I.nwm q) .refl) e2 fun σ' I'=>k' _ _ _ (.same S) I'
theorem da{wi:TI}{g:TG}{t:TS}{fi:AF}{G:GF}{b:SF}{lf0:List Bool}(hi:PuI K ns wi fi)(hg:PuG K ns fl g G)(hb:PuS K ns fr fl fl t b fl):PuS K ns fr lf0 fl (Cy wi g t) (dD (mk fl fi) G b) fl:=by
 intro L0 H0 O env σ H E I k
 unfold dD mk at k
 cases e:fi (d7 fl env) with
 |none=>rw[e] at k;exact k.elim
 |some ds=>
  rw[e] at k
  have k1:Fin K ns fr lf0 fl L0 H0 O H E (bE G b ds env):=k
  refine hi _ (d7 fl env) σ H _ ds I.strict e fun J H1 S1 it=> ?_
  refine⟨fun i m σ2 H2=>m=ds.length-i∧i≤ds.length∧∃O2 e2,Step O H1 O2 H2∧Iv K ns fl L0 H0 O2 e2 σ2 H2∧Fin K ns fr lf0 fl L0 H0 O2 H2 E (bE G b (ds.drop i) e2),⟨_,rfl,Nat.zero_le _,O,env, .refl,I.same S1,by rw[List.drop_zero];exact Fin.mono (.same S1) k1 rfl rfl rfl rfl⟩, ?_⟩
  rintro i m σ2 H2 ⟨rfl,hle,O2,e2,T2,I2,k2⟩
  have lm:∀a o,H1 a=some o→Nw (Lm L0 H0 O) H a→Lm L0 H0 O2 a∧some a∉O:=fun a o ea hl=>by
   have:=I.nwm hl
   refine⟨⟨this.1,fun q=> ?_⟩,this.2⟩
   rcases T2.ow a q with q|q
   · exact this.2 q
   · rw[ea] at q;cases q
  have kp:KeepL (fun a=>Lm L0 H0 O2 a∧some a∉O) H1 H2:=fun a o ea hm=>by
   refine T2.kp a o ea fun hq=> ?_
   obtain⟨vs,hv,hmu⟩:=(I.same S1).own_in hq
   rw[ea] at hv
   cases hv
   exact(hm hmu).2 hq
  obtain⟨go,stop⟩:=it (fun a=>Lm L0 H0 O2 a∧some a∉O) i H2 lm kp
  by_cases hlt:i<ds.length
  · obtain⟨gg,yl⟩:=go ds[i] (List.getElem?_eq_getElem hlt)
    rw[List.drop_eq_getElem_cons hlt,bE] at k2
    refine .inr ⟨gg,fun σ' H'=>∃m',m'<ds.length-i∧m'=ds.length-(i+1)∧i+1≤ds.length∧∃O2 e2,Step O H1 O2 H'∧Iv K ns fl L0 H0 O2 e2 σ' H'∧Fin K ns fr lf0 fl L0 H0 O2 H' E (bE G b (ds.drop (i+1)) e2),fun σ' H' h=>h,fun x H3 y=> ?_⟩
    obtain⟨S3,rx⟩:=yl x H3 y
    have I3:=I2.same S3
    cases eg:G ds[i] e2 with
    |none=>rw[eg] at k2;exact k2.elim
    |some e3=>
     rw[eg] at k2
     refine hg L0 H0 O2 e2 e3 σ2 H3 x ds[i] _ I3 (rx.mono (fun _ q=>q.elim (fun z=>z.1) I2.new_m) .refl) eg fun σ3 I4=> ?_
     refine hb L0 H0 O2 e3 σ3 H3 _ I4 ?_
     have T3:Step O2 H2 O2 H3:= .same S3
     have k3:Fin K ns fr lf0 fl L0 H0 O2 H2 E ((b e3).bind fun
      | .nx e=>bE G b (ds.drop (i+1)) e
      | .ct e=>bE G b (ds.drop (i+1)) e
      | .bk e=>some (.nx e)
      | .rt d=>some (.rt d)):=k2
     cases ebd:b e3 with
     |none=>rw[ebd] at k3;exact k3.elim
     |some o=>
      rw[ebd] at k3
      cases o with
      |nx e4=>exact fun O5 σ5 H5 T5 I5=>⟨ds.length-(i+1),by omega,rfl,hlt,O5,e4,T2.trans (T3.trans T5),I5,Fin.mono (T3.trans T5) k3 rfl rfl rfl rfl⟩
      |ct e4=>exact fun O5 σ5 H5 T5 I5=>⟨ds.length-(i+1),by omega,rfl,hlt,O5,e4,T2.trans (T3.trans T5),I5,Fin.mono (T3.trans T5) k3 rfl rfl rfl rfl⟩
      |bk e4=>exact fun O5 σ5 H5 T5 I5=>k3 O5 σ5 H5 (T3.trans T5) I5
      |rt d=>exact k3
  · have hi':ds.length=i:=by omega
    refine .inl ⟨stop hi', ?_⟩
    rw[List.drop_of_length_le (by omega)] at k2
    exact k2 O2 σ2 H2 .refl I2
end
end PD
namespace PD
open PySem L2
section
variable{K:W.Frag}{ns:List Str}{fr:Fr}{lf fl fl' fl'':List Bool}{L0:Addr→Prop}{H0 H H' H'':Hp}{O O' O'':List (Option Addr)}{env:Env}{σ:St}
def yV(K:W.Frag)(ns:List Str)(fl:List Bool)(g:TGs)(is:List Nat):Prop:=∀(L0:Addr→Prop) (H0:Hp) (O:List (Option Addr)) (env e:Env) (σ:St) (H:Hp) (xs:List V) (ds:List D) (Q:St→Hp→Prop),Iv K ns fl L0 H0 O env σ H→Rds K ns (Lm L0 H0 O) H xs ds→kG is ds env=some e→(∀σ',Iv K ns fl L0 H0 O e σ' H→Q σ' H)→g xs σ H Q
theorem jp:yV K ns fl AR []:=by
 intro L0 H0 O env e σ H xs ds Q I r hg k
 cases r with
 |nil=>cases hg;exact⟨rfl,k _ I⟩
 |cons h t=>cases hg
theorem bi{i:Nat}{is:List Nat}{g:TGs}(hi:fl[i]? =some false)(h:yV K ns fl g is):yV K ns fl (wm (jI i) g) (i::is):=by
 intro L0 H0 O env e σ H xs ds Q I r hg k
 cases r with
 |nil=>cases hg
 |cons rv rt=>
  refine⟨_,_,rfl, ?_⟩
  exact cH i hi L0 H0 O env _ σ H _ _ _ I rv rfl fun σ' I'=>h L0 H0 O _ e σ' H _ _ Q I' rt hg k
theorem lZ:∀{is:List Nat} {ds:List D} {env e:Env},kG is ds env=some e→ds.length=is.length
 |[],[],_,_,_=>rfl
 |_::is,_::ds,_,_,h=>congrArg Nat.succ (lZ (is:=is) (ds:=ds) h)
 |[],_::_,_,_,h=>by cases h
 |_::_,[],_,_,h=>by cases h
theorem ll{n:Nat}{is:List Nat}{g:TGs}(h:yV K ns fl g is)(hn:is.length=n:=by rfl):PuG K ns fl (yo K n g) (gU is):=by
 intro L0 H0 O env e σ H x d Q I r hg k
 cases r<;>first|(cases hg;done)|skip
 · rename_i e1 r
   exact⟨_,_,rfl,SqT.of e1,by rw[r.len,lZ hg,hn],h L0 H0 O env e σ H _ _ Q I r hg k⟩
 · rename_i e1 r
   exact⟨_,_,rfl,SqT.kt e1,by rw[r.len,lZ hg,hn],h L0 H0 O env e σ H _ _ Q I r hg k⟩
theorem uP{c:TT}{t:TS}{fc:BF}{b:SF}{lf0:List Bool}(hc:PuT K ns c fc)(hb:PuS K ns fr fl fl t b fl):PuS K ns fr lf0 fl (wo c t) (whS fc b) fl:=by
 intro L0 H0 O env σ H E I k
 unfold whS at k
 refine⟨fun m σ2 H2=>∃O2 e2,Step O H O2 H2∧Iv K ns fl L0 H0 O2 e2 σ2 H2∧Fin K ns fr lf0 fl L0 H0 O2 H2 E (whN fc b m e2),⟨1000000,O,env, .refl,I,k⟩, ?_⟩
 rintro m σ2 H2 ⟨O2,e2,T2,I2,k2⟩
 cases m with
 |zero=>exact k2.elim
 |succ m=>
  rw[whN] at k2
  cases ec:fc e2 with
  |none=>rw[ec] at k2;exact k2.elim
  |some x=>
   rw[ec] at k2
   refine hc _ e2 σ2 H2 _ x I2.weak ec fun H3 S3=> ?_
   cases x with
   |false=>
    rw[if_neg Bool.false_ne_true]
    exact k2 O2 σ2 H3 (.same S3) (I2.same S3)
   |true=>
    rw[if_pos rfl]
    have T3:Step O2 H2 O2 H3:= .same S3
    refine⟨fun σ' H'=>∃m',m'<m+1∧∃O2 e2,Step O H O2 H'∧Iv K ns fl L0 H0 O2 e2 σ' H'∧Fin K ns fr lf0 fl L0 H0 O2 H' E (whN fc b m' e2),fun σ' H' h=>h, ?_⟩
    refine hb L0 H0 O2 e2 σ2 H3 _ (I2.same S3) ?_
    have k3:Fin K ns fr lf0 fl L0 H0 O2 H2 E ((b e2).bind fun
     | .nx e=>whN fc b m e
     | .ct e=>whN fc b m e
     | .bk e=>some (.nx e)
     | .rt d=>some (.rt d)):=k2
    cases ebd:b e2 with
    |none=>rw[ebd] at k3;exact k3.elim
    |some o=>
     rw[ebd] at k3
     cases o with
     |nx e4=>exact fun O5 σ5 H5 T5 I5=>⟨m,by omega,O5,e4,T2.trans (T3.trans T5),I5,Fin.mono (T3.trans T5) k3 rfl rfl rfl rfl⟩
     |ct e4=>exact fun O5 σ5 H5 T5 I5=>⟨m,by omega,O5,e4,T2.trans (T3.trans T5),I5,Fin.mono (T3.trans T5) k3 rfl rfl rfl rfl⟩
     |bk e4=>exact fun O5 σ5 H5 T5 I5=>k3 O5 σ5 H5 (T3.trans T5) I5
     |rt d=>exact k3
end
theorem Aj{α:Type}(a:α):∃x,x=a:=⟨a,rfl⟩
noncomputable def aa{α:Type}(a:α):α:=Classical.choose (Aj a)
theorem ap{α:Type}(a:α):aa a=a:=Classical.choose_spec (Aj a)
def jq(n:Nat)(ds:List D):Env:=ds.map some++List.replicate (n-ds.length) none
def bp(n:Nat)(b:SF)(ds:List D):Option D:=(b (jq n ds)).bind fun
 | .rt d=>some d
 | .nx _=>some .non
 |_=>none
def bH(n:Nat)(b:SF)(ds:List D):Option D:=(b (jq n ds)).bind fun
 | .rt d=>some d
 |_=>none
def spP(K:W.Frag)(ns:List Str)(fr:Fr)(n:Nat)(F:List D→Option D):Sp:=fun vs H Q _=>∃(L:Addr→Prop) (ds:List D) (d:D),ds.length=n∧Rds K ns L H vs ds∧F ds=some d∧∀v H',Same H H'→Res K ns fr L H H' v d→Q v H'
section
variable{K:W.Frag}{ns:List Str}{fr:Fr}{fl':List Bool}
theorem aP{n:Nat}{F:List D→Option D}{vs:List V}{H:Hp}{Q:VK}{E:XK}(h:spP K ns fr n F vs H Q E):vs.length=n:=by
 obtain⟨L,ds,d,hl,r,_⟩:=h
 rw[r.len,hl]
theorem rm{L:Addr→Prop}{H:Hp}{vs:List V}{ds:List D}{n:Nat}{N:List Str}(r:Rds K ns L H vs ds)(hN:N.length=n)(hn:ds.length≤n):Iv K ns (List.replicate n false) L H (List.replicate n none) (jq n ds) (start N vs) H:=by
 have nm:∀a:Addr,some a∉List.replicate n (none:Option Addr):=fun a h=>by
  have:=List.eq_of_mem_replicate h
  cases this
 refine⟨Same.refl _,by simp,by unfold L2.start;simp[r.len];omega,by unfold jq;simp;omega,fun i d e _=> ?_,fun i p h=> ?_,fun i j p h=> ?_⟩
 · unfold jq at e
   have hi:i<ds.length:=by
    by_cases hi:i<ds.length
    · exact hi
    · rw[List.getElem?_append_right (by simp;omega)] at e
      have:=List.eq_of_mem_replicate (List.mem_of_getElem? e)
      cases this
   rw[List.getElem?_append_left (by simpa using hi),List.getElem?_map] at e
   obtain⟨d',hd,e⟩:=Option.map_eq_some_iff.mp e
   cases e
   obtain⟨v,hv,rv⟩:=r.get hd
   refine⟨v, ?_,rv.mono (fun a q=>⟨.inl q,nm a⟩) .refl⟩
   unfold L2.start
   rw[List.getElem?_append_left (by simp[r.len];exact hi),List.getElem?_map,hv]
   rfl
 · exact absurd (List.mem_of_getElem? h) (nm p)
 · exact absurd (List.mem_of_getElem? h) (nm p)
theorem cI{t:TS}{b:SF}{n m:Nat}{N:List Str}{vs:List V}{H:Hp}{Q:VK}{E:XK}(h:PuS K ns .no [] (List.replicate n false) t b fl')(hN:N.length=n)(hm:m≤n)(s:spP K ns .no m (bp n b) vs H Q E):t {nx:=fun _ H'=>Q .non H',rt:=Q} (start N vs) H:=by
 obtain⟨L,ds,d,hl,r,hf,k⟩:=s
 refine h L H _ _ _ _ _ (rm r hN (by omega)) ?_
 unfold bp at hf
 cases e:b (jq n ds) with
 |none=>rw[e] at hf;cases hf
 |some o=>
  rw[e] at hf
  cases o with
  |nx e2=>cases hf;exact fun O' σ' H' _ I'=>k _ _ I'.sm .non
  |rt d2=>cases hf;exact k
  |bk e2=>cases hf
  |ct e2=>cases hf
theorem cE{t:TS}{b:SF}{n m:Nat}{N:List Str}{vs:List V}{H:Hp}{Q:VK}{E:XK}(h:PuS K ns .yes [] (List.replicate n false) t b fl')(hN:N.length=n)(hm:m≤n)(s:spP K ns .yes m (bH n b) vs H Q E):t {nx:=fun _ H'=>Q .non H',rt:=Q} (start N vs) H:=by
 obtain⟨L,ds,d,hl,r,hf,k⟩:=s
 refine h L H _ _ _ _ _ (rm r hN (by omega)) ?_
 unfold bH at hf
 cases e:b (jq n ds) with
 |none=>rw[e] at hf;cases hf
 |some o=>
  rw[e] at hf
  cases o with
  |rt d2=>cases hf;exact k
  |nx e2=>cases hf
  |bk e2=>cases hf
  |ct e2=>cases hf
theorem bg{n:Nat}{F:List D→Option D}{t:TA}{f:AF}{E:XK}(h:PuA K ns n t f):PuE K ns (oy (spP K ns .no n F) [] E t) (av F f):=by
 intro L env σ H Q d he hf k
 obtain⟨a,ea,hf⟩:=bnd hf
 refine h L env σ H _ a he ea fun xs H1 hl S1 rx=>⟨Nw L H,a,d,hl,by rw[List.append_nil];exact rx,hf,fun v H2 S2 r=>k v H2 (S1.trans S2) (Rd.mono (fun _ q=>nw2 S1 q) .refl (show Rd K ns (Nw (Nw L H) H1) H2 v d from r))⟩
theorem ce{n:Nat}{F:List D→Option D}{t:TA}{f:AF}{E:XK}(h:PuA K ns n t f):PuF K ns (oy (spP K ns .yes n F) [] E t) (av F f):=by
 intro L env σ H Q d he hf k
 obtain⟨a,ea,hf⟩:=bnd hf
 refine h L env σ H _ a he ea fun xs H1 hl S1 rx=>⟨Nw L H,a,d,hl,by rw[List.append_nil];exact rx,hf,fun v H2 S2 r=> ?_⟩
 obtain⟨p,us,ds,rfl,ed,hp,hl2,rr⟩:=(show ∃p us ds,v= .ref p∧d= .lst ds∧H1 p=none∧H2 p=some (.lst us)∧Rds K ns (fun a=>Nw (Nw L H) H1 a∧a≠p) H2 us ds from r)
 exact k p us ds H2 ed (S1.trans S2) (ie S1 hp) hl2 (rr.mono (fun _ q=>⟨nw2 S1 q.1,q.2⟩) .refl)
theorem BK{F:List D→Option D}{vs:List V}{H:Hp}{Q:VK}{E:XK}{a:Addr}{xs:List Int}(e:vs=[.ref a])(hs:SqL K H a (xs.map V.int))(hF:∀d,(d= .lst (xs.map D.int)∨d= .fz (xs.map D.int))→F [d]=some (.bl true))(k:∀H',Q (.bl true) H'):spP K ns .no 1 F vs H Q E:=by
 have rd:Rds K ns (fun _=>True) H (xs.map V.int) (xs.map D.int):=by
  clear hs hF
  induction xs with
  |nil=>exact .nil
  |cons x r ih=>exact .cons (.int x) ih
 subst e
 have fin:∀v H',Same H H'→Res K ns .no (fun _=>True) H H' v (.bl true)→Q v H':=fun v H' S r=>by
  have r':Rd K ns (Nw (fun _=>True) H) H' v (.bl true):=r
  cases r'
  exact k H'
 rcases hs with(h|h)|h
 · exact⟨fun _=>True,[.lst (xs.map D.int)],_,rfl, .cons (.lst trivial h rd) .nil,hF _ (.inl rfl),fin⟩
 · exact⟨fun _=>True,[.fz (xs.map D.int)],_,rfl, .cons (.fz (.inl h) rd) .nil,hF _ (.inr rfl),fin⟩
 · exact⟨fun _=>True,[.fz (xs.map D.int)],_,rfl, .cons (.fz (.inr h) rd) .nil,hF _ (.inr rfl),fin⟩
end
end PD
namespace PD
open PySem L2
theorem nh{K:W.Frag}{A B:String}{b:Bool}(hn:(Value.type A==Value.type B)=false:=by decide+kernel)(h1:W.kitMeta B=true:=by decide+kernel)(h2:((fastBuiltinMro A).map (·.contains (Value.type B)))=some b:=by decide+kernel):W.kitOne K (.type A) (.type B)=some b:=by
 show (if(Value.type A==Value.type B)=true then some true else if W.kitMeta B=true then W.subIn K (.type A) (.type B) else none)=some b
 rw[hn,if_neg Bool.false_ne_true,if_pos h1]
 exact h2
section
variable{K:W.Frag}{ns:List Str}
def okT(T:String):Bool:=T=="int"||T=="bool"||T=="str"||T=="list"||T=="tuple"
theorem yW{d:D}(h1:∀xs,d≠ .kt xs)(h3:∀c fs,d≠ .ob c fs):W.kitOne K (.type d.ty) (.type "int")=some (gM d.ty "int"):=by
 cases d<;>first|exact absurd rfl (h1 _)|exact absurd rfl (h3 _ _)|rfl|exact nh
theorem xf{d:D}(h1:∀xs,d≠ .kt xs)(h3:∀c fs,d≠ .ob c fs):W.kitOne K (.type d.ty) (.type "bool")=some (gM d.ty "bool"):=by
 cases d<;>first|exact absurd rfl (h1 _)|exact absurd rfl (h3 _ _)|rfl|exact nh
theorem yX{d:D}(h1:∀xs,d≠ .kt xs)(h3:∀c fs,d≠ .ob c fs):W.kitOne K (.type d.ty) (.type "str")=some (gM d.ty "str"):=by
 cases d<;>first|exact absurd rfl (h1 _)|exact absurd rfl (h3 _ _)|rfl|exact nh
theorem xg{d:D}(h1:∀xs,d≠ .kt xs)(h3:∀c fs,d≠ .ob c fs):W.kitOne K (.type d.ty) (.type "list")=some (gM d.ty "list"):=by
 cases d<;>first|exact absurd rfl (h1 _)|exact absurd rfl (h3 _ _)|rfl|exact nh
theorem v3{d:D}(h1:∀xs,d≠ .kt xs)(h3:∀c fs,d≠ .ob c fs):W.kitOne K (.type d.ty) (.type "tuple")=some (gM d.ty "tuple"):=by
 cases d<;>first|exact absurd rfl (h1 _)|exact absurd rfl (h3 _ _)|rfl|exact nh
theorem oJ{T:String}(h:okT T=true){d:D}(h1:∀xs,d≠ .kt xs)(h3:∀c fs,d≠ .ob c fs):W.kitOne K (.type d.ty) (.type T)=some (gM d.ty T):=by
 unfold okT at h
 simp only[Bool.or_eq_true,beq_iff_eq] at h
 rcases h with(((h|h)|h)|h)|h<;>subst h
 · exact yW h1 h3
 · exact xf h1 h3
 · exact yX h1 h3
 · exact xg h1 h3
 · exact v3 h1 h3
theorem Dg{T:String}(h:okT T=true){C:Addr}{ms fs:List Str}(p:PKd K ns C ms fs):W.kitOne K (.ref C) (.type T)=some false:=by
 unfold okT at h
 simp only[Bool.or_eq_true,beq_iff_eq] at h
 rcases h with(((h|h)|h)|h)|h<;>subst h<;>exact p.notT _
theorem iQ{t:TE}{f:VF}(T:String)(hT:okT T=true)(h:PuE K ns t f):PuE K ns (tCB (D7 K) (kC t (kC (tC (.ty T)) qU))) (av (isT T) (ah f au)):=by
 intro L env σ H Q d he hf k
 obtain⟨as,eas,hf⟩:=bnd hf
 obtain⟨a,ea,e2⟩:=bnd eas
 cases e2
 clear eas
 refine h L env σ H _ a he ea fun x H1 S1 r=> ?_
 cases r with
 | @ob a dx gs c fs l e kk r=>
   cases hf
   have e0:gM (D.ob c fs).ty T=false:=by
    unfold okT at hT
    simp only[Bool.or_eq_true,beq_iff_eq] at hT
    show gM "object" T=false
    rcases hT with(((h|h)|h)|h)|h<;>subst h<;>decide
   rw[e0] at k
   exact⟨_,_,_,_,rfl,PKd.ty kk e,Dg hT kk,k _ _ S1 (.bl _)⟩
 |kt e r=>cases hf
 |fz e r=>cases hf
 |dk l e r=>cases hf
 |dt l e r=>cases hf
 |non=>cases hf;exact⟨_,_,_,_,rfl, .non,oJ hT (d:= .non) (fun _ z=>by cases z) (fun _ _ z=>by cases z),k _ _ S1 (.bl _)⟩
 |bl b=>cases hf;exact⟨_,_,_,_,rfl, .bl b,oJ hT (d:= .bl b) (fun _ z=>by cases z) (fun _ _ z=>by cases z),k _ _ S1 (.bl _)⟩
 |int b=>cases hf;exact⟨_,_,_,_,rfl, .int b,oJ hT (d:= .int b) (fun _ z=>by cases z) (fun _ _ z=>by cases z),k _ _ S1 (.bl _)⟩
 |str b=>cases hf;exact⟨_,_,_,_,rfl, .str b,oJ hT (d:= .str b) (fun _ z=>by cases z) (fun _ _ z=>by cases z),k _ _ S1 (.bl _)⟩
 | @tup a vs ds e r=>cases hf;exact⟨_,_,_,_,rfl, .tup e,oJ hT (d:= .tup ds) (fun _ z=>by cases z) (fun _ _ z=>by cases z),k _ _ S1 (.bl _)⟩
 | @lst a vs ds l e r=>cases hf;exact⟨_,_,_,_,rfl, .lst e,oJ hT (d:= .lst ds) (fun _ z=>by cases z) (fun _ _ z=>by cases z),k _ _ S1 (.bl _)⟩
def Cl.un(x:Str):Option Cl:=if x="Open" then some .Open else if x="Bridge" then some .Bridge else if x="Road" then some .Road else if x="Cart" then some .Cart else if x="Trip" then some .Trip else if x="Day" then some .Day else none
theorem Cl.un_s(c:Cl):Cl.un c.s=some c:=by cases c<;>decide
theorem Cl.inj{c d:Cl}(h:c.s=d.s):c=d:=Option.some.inj (by rw[←Cl.un_s c,←Cl.un_s d,h])
theorem BL{t:TE}{f:VF}(c:Cl)(hm:c.s∈ns)(h:PuE K ns t f):PuE K ns (tCB (Bm K) (kC t (kC (tC (.ref (clA K c.s))) qU))) (av (isC c) (ah f au)):=by
 intro L env σ H Q d he hf k
 obtain⟨as,eas,hf⟩:=bnd hf
 obtain⟨a,ea,e2⟩:=bnd eas
 cases e2
 clear eas
 refine h L env σ H _ a he ea fun x H1 S1 r=> ?_
 cases r with
 | @ob a2 dx gs c' fs l e kk r=>
   cases hf
   refine⟨_,_,_,_,rfl,PKd.ty kk e,kk.kit _ hm, ?_⟩
   have:([c'.s].contains c.s)=decide (c'=c):=by
    rw[List.contains_cons,List.contains_nil,Bool.or_false]
    by_cases z:c'=c
    · subst z;simp
    · rw[decide_eq_false z]
      exact beq_eq_false_iff_ne.mpr fun q=>z (Cl.inj q.symm)
   rw[this]
   exact k _ _ S1 (.bl _)
 |_=>cases hf
def im(c:Cl)(I:List D→Option (List (Fl×D)))(f:AF):VF:=fun env=>(f env).bind fun ds=>(I ds).map (.ob c)
def rn:List (Fl×VF)→Env→Option (List (Fl×D))
 |[],_=>some []
 |(f,e)::r,env=>(e env).bind fun d=>(rn r env).map ((f,d):: ·)
def uQ(l:List (Fl×VF))(ds:List D):Option (List (Fl×D)):=rn l (none::ds.map some)
def spI(K:W.Frag)(ns:List Str)(c:Cl)(n:Nat)(I:List D→Option (List (Fl×D))):Sp:=fun vs H Q _=>∃(x dx:Addr) (us:List V) (L:Addr→Prop) (ds:List D) (fs:List (Fl×D)),vs= .ref x::us∧ds.length=n∧H x=some (.ins (clA K c.s) dx [])∧¬L x∧CF K ns c∧Rds K ns L H us ds∧I ds=some fs∧
 ∀H' gs,(∀b o,b≠x→H b=some o→H' b=some o)→H' x=some (.ins (clA K c.s) dx gs)→Rfs K ns (Nw L H) H' gs fs→Q .non H'
theorem mP{n:Nat}{I:List D→Option (List (Fl×D))}{t:TA}{f:AF}{E:XK}(c:Cl)(d:CF K ns c)(h:PuA K ns n t f):PuE K ns (wB (clA K c.s) (spI K ns c n I) [] E t) (im c I f):=by
 intro L env σ H Q r he hf k
 obtain⟨as,ea,hf⟩:=bnd hf
 obtain⟨fs,ef,rfl⟩:=Option.map_eq_some_iff.mp hf
 refine h L env σ H _ as he ea fun vs H1 hl S1 rv x dx hx hd hne=> ?_
 have up:∀b o,H1 b=some o→upd (upd H1 dx (.own x)) x (.ins (clA K c.s) dx []) b=some o:=fun b o e=>by rw[aR (aM e hx),aR (aM e hd)];exact e
 refine⟨x,dx,vs,fun a=>Nw L H a∧a≠x,as,fs,by rw[List.append_nil],hl,aX,fun q=>q.2 rfl,d,rv.mono2 (fun a o e l=>⟨l,aM e hx⟩) (.of up),ef,fun H' gs kp e' rf=>⟨rfl, ?_⟩⟩
 have up2:Same H1 H':=fun b o e=>kp b o (aM e hx) (up b o e)
 refine k _ _ (S1.trans up2) (.ob (.inr (ie S1 hx)) e' d (rf.mono2 (fun a o e l=> ?_) .refl))
 rcases l with l|l
 · exact l.1
 · refine .inr (ie S1 ?_)
   cases z:H1 a with
   |none=>rfl
   |some o'=>rw[up a o' z] at l;cases l
def Fl.un(x:Str):Option Fl:=([.length, .name, .bears, .wide, .most, .pieces, .rounds, .shuts, .speed, .wheels, .cart, .way, .start, .crossings, .ended, .road, .loads, .sends]:List Fl).find? fun f=>decide (f.s=x)
theorem Fl.un_s(f:Fl):Fl.un f.s=some f:=by cases f<;>decide
theorem Fl.inj{c d:Fl}(h:c.s=d.s):c=d:=Option.some.inj (by rw[←Fl.un_s c,←Fl.un_s d,h])
def PuN(K:W.Frag)(ns:List Str)(C:Addr)(t:TS)(l:List (Fl×VF)):Prop:=∀(L:Addr→Prop) (env:Env) (σ:St) (H:Hp) (E:Ends) (x dx:Addr) (gs:List (Str×V)) (fs fs':List (Fl×D)),σ[0]? =some (some (.ref x))→H x=some (.ins C dx gs)→¬L x→Cls K C→(∀f∈l,NoAttr K C f.1.s)→gs.length+l.length<900→(fs.map Prod.fst++l.map Prod.fst).Nodup→EnvR K ns L env σ H→Rfs K ns L H gs fs→rn l env=some fs'→
 (∀H' gs',(∀b o,b≠x→H b=some o→H' b=some o)→H' x=some (.ins C dx gs')→gs'.length≤gs.length+l.length→Rfs K ns (Nw L H) H' gs' (fs++fs')→E.nx σ H')→t E σ H
theorem ro{f:Str}{v:V}:∀{gs:List (Str×V)},(i7 f v gs).length≤gs.length+1
 |[]=>Nat.le_refl _
 |(g,x)::r=>by
  unfold i7
  split
  · exact Nat.le_succ _
  · exact Nat.succ_le_succ ro
theorem yY{L:Addr→Prop}{H:Hp}{f:Fl}{v:V}{gs:List (Str×V)}{fs:List (Fl×D)}(h:Rfs K ns L H gs fs):f∉fs.map Prod.fst→Rfs K ns L H (i7 f.s v gs) fs:=by
 induction fs with
 |nil=>intro _;exact .nil
 |cons g fs ih=>
  intro hn
  cases h with
  |cons e h t=>
   refine .cons ?_ h (ih t fun q=>hn (List.mem_cons_of_mem _ q))
   rw[iB,if_neg fun z=>hn (by rw[Fl.inj z];exact List.mem_cons_self)]
   exact e
theorem yZ{L:Addr→Prop}{H:Hp}{gs:List (Str×V)}{fs es:List (Fl×D)}(h:Rfs K ns L H gs fs)(s:Rfs K ns L H gs es):Rfs K ns L H gs (fs++es):=by
 induction fs with
 |nil=>exact s
 |cons g fs ih=>
  cases h with
  |cons e h t=>exact .cons e h (ih t)
theorem jr{C:Addr}{te:TE}{fe:VF}(f:Fl)(h:PuE K ns te fe):PuN K ns C (CG K (oY 0) te f.s) [(f,fe)]:=by
 intro L env σ H E x dx gs fs fs' hs hx hl cl na hlen nd he rf hi k
 obtain⟨d,ed,hi⟩:=bnd hi
 cases hi
 refine h L env σ H _ d he ed fun v H1 S1 rv=>⟨_,hs,x,C,dx,gs,rfl,S1 _ _ hx,cl,na _ (List.mem_singleton.mpr rfl),by simp only[List.length_singleton] at hlen;omega, ?_⟩
 have np:¬Nw L H x:=fun q=>q.elim hl fun z=>by rw[hx] at z;cases z
 have kp:KeepL (Nw L H) H1 (upd H1 x (.ins C dx (i7 f.s v gs))):=fun a o e hm=>by
  by_cases z:a=x
  · subst z
    rw[S1 _ _ hx] at e
    cases e
    exact absurd (hm rfl) np
  · rw[aR z];exact e
 have nf:f∉fs.map Prod.fst:=fun q=>by
  have:=(List.nodup_append.mp nd).2.2 _ q f (List.mem_singleton.mpr rfl)
  exact this rfl
 refine k _ _ (fun b o hb e=>by rw[aR hb];exact S1 _ _ e) aX (by simpa using ro) ?_
 refine yZ ((yY rf nf).mono (fun _=> .inl) (fun a o e hm=> ?_)) (.cons (by rw[iB,if_pos rfl]) (rv.mono (fun _ q=>q) kp) .nil)
 exact kp a o (S1 _ _ e) fun q=> .inl (hm q)
theorem ma{C:Addr}{t u:TS}{a:Fl×VF}{r:List (Fl×VF)}(h1:PuN K ns C t [a])(h2:PuN K ns C u r):PuN K ns C (AQ t u) (a::r):=by
 intro L env σ H E x dx gs fs fs' hs hx hl cl na hlen nd he rf hi k
 obtain⟨f,fe⟩:=a
 obtain⟨d,ed,hi⟩:=bnd hi
 obtain⟨h9,er,rfl⟩:=Option.map_eq_some_iff.mp hi
 have nd':(fs.map Prod.fst++[f]).Nodup∧((fs++[(f,d)]).map Prod.fst++r.map Prod.fst).Nodup:=by
  rw[List.map_cons] at nd
  have e:fs.map Prod.fst++f::r.map Prod.fst=(fs.map Prod.fst++[f])++r.map Prod.fst:=by simp
  rw[e] at nd
  exact⟨(List.nodup_append.mp nd).1,by simpa using nd⟩
 refine h1 L env σ H _ x dx gs fs [(f,d)] hs hx hl cl (fun g hg=>na g (by rw[List.mem_singleton.mp hg];exact List.mem_cons_self)) (by simp only[List.length_cons] at hlen;simp only[List.length_singleton];omega) nd'.1 he rf (by show (fe env).bind _=_;rw[ed];rfl) fun H1 gs1 kp1 hx1 hl1 rf1=> ?_
 have np:¬Nw L H x:=fun q=>q.elim hl fun z=>by rw[hx] at z;cases z
 have hk:KeepL L H H1:=fun a o e hm=>by
  by_cases z:a=x
  · subst z
    rw[hx] at e
    cases e
    exact absurd (hm rfl) hl
  · exact kp1 a o z e
 refine h2 (Nw L H) env σ H1 E x dx gs1 (fs++[(f,d)]) h9 hs hx1 np cl (fun g hg=>na g (List.mem_cons_of_mem _ hg)) (by simp only[List.length_cons,List.length_nil] at hlen hl1 ⊢;omega) nd'.2 (fun i d' e=>by
  obtain⟨v,q,rr⟩:=he i d' e
  exact⟨v,q,rr.mono (fun _=> .inl) hk⟩) rf1 er fun H2 gs2 kp2 hx2 hl2 rf2=> ?_
 refine k H2 gs2 (fun b o hb e=>kp2 b o hb (kp1 b o hb e)) hx2 (by simp only[List.length_cons,List.length_nil] at hl1 hl2 ⊢;omega) ?_
 rw[List.append_assoc] at rf2
 refine rf2.mono (fun a q=> ?_) .refl
 rcases q with q|q
 · exact q
 · by_cases z:a=x
   · subst z;rw[hx1] at q;cases q
   · refine .inr ?_
     cases w:H a with
     |none=>rfl
     |some o=>rw[kp1 a o z w] at q;cases q
theorem pO{c:Cl}{t:TS}{l:List (Fl×VF)}{n:Nat}{N:List Str}{vs:List V}{H:Hp}{Q:VK}{E:XK}(h:PuN K ns (clA K c.s) t l)(hf:l.map Prod.fst=c.fs)(hN:N.length=n+1)(s:spI K ns c n (uQ l) vs H Q E):t {nx:=fun _ H'=>Q .non H',rt:=Q} (start N vs) H:=by
 obtain⟨x,dx,us,L,ds,fs,rfl,hl,hx,nl,cf,r,ei,k⟩:=s
 have hlen:l.length<800:=by
  have:=congrArg List.length hf
  rw[List.length_map] at this
  rw[this]
  cases c<;>decide
 have nd:(l.map Prod.fst).Nodup:=by rw[hf];cases c<;>decide
 have st:start N (.ref x::us)=some (.ref x)::us.map some:=by
  unfold L2.start
  have:N.length-(V.ref x::us).length=0:=by rw[List.length_cons,r.len];omega
  rw[this]
  simp
 rw[st]
 refine h L (none::ds.map some) _ H _ x dx [] [] fs rfl hx nl cf.cls (fun f hf'=>cf.na _ ?_) (by show 0+l.length<900;omega) (by simpa using nd) (fun i d e=> ?_) .nil ei fun H' gs kp hx' _ rf=>k H' gs kp hx' (by simpa using rf)
 · rw[←hf,List.map_map]
   exact List.mem_map.mpr ⟨f,hf',rfl⟩
 · cases i with
   |zero=>cases e
   |succ i=>
    have e':(ds.map some)[i]? =some (some d):=e
    rw[List.getElem?_map] at e'
    obtain⟨d',hd,e'⟩:=Option.map_eq_some_iff.mp e'
    cases e'
    obtain⟨v,hv,rv⟩:=r.get hd
    exact⟨v,by show (us.map some)[i]? =_;rw[List.getElem?_map,hv];rfl,rv⟩
theorem pP{c:Cl}{n:Nat}{I:List D→Option (List (Fl×D))}{vs:List V}{H:Hp}{Q:VK}{E:XK}(h:spI K ns c n I vs H Q E):vs.length=n+1:=by
 obtain⟨x,dx,us,L,ds,fs,rfl,hl,_,_,_,r,_⟩:=h
 rw[List.length_cons,r.len,hl]
def tQ:Nat→Nat→TGs
 |_,0=>AR
 |j,n+1=>wm (jI j) (tQ (j+1) n)
theorem uR{Q:St→Hp→Prop}{H:Hp}{c:St}:∀(n:Nat) (pre xs:List V),xs.length=n→Q ((pre++xs).map some++c) H→tQ pre.length n xs (pre.map some++(List.replicate n none++c)) H Q
 |0,pre,[],_,q=>⟨rfl,by simpa using q⟩
 |n+1,pre,x::xs,hl,q=>by
  refine⟨x,xs,rfl, ?_⟩
  show tQ (pre.length+1) n xs ((pre.map some++(List.replicate (n+1) none++c)).set pre.length (some x)) H Q
  have e:(pre.map some++(List.replicate (n+1) none++c)).set pre.length (some x)=(pre++[x]).map some++(List.replicate n none++c):=by
   rw[List.set_append_right _ _ (by simp)]
   simp[List.replicate_succ]
  rw[e]
  have:=uR (Q:=Q) (H:=H) (c:=c) n (pre++[x]) xs (by simpa using hl) (by simpa using q)
  simpa using this
def bT(kx:Nat)(fc:BF)(fe:VF)(caps:Env):List D→Option (List D)
 |[]=>some []
 | .tup ds::xs=>if ds.length=kx then(fc (ds.map some++caps)).bind fun b=>if b=true then(fe (ds.map some++caps)).bind fun y=>(bT kx fc fe caps xs).map (y:: ·) else bT kx fc fe caps xs else none
 |_=>none
def gX(kx:Nat)(fi:AF)(fc:BF)(fe:VF)(cap:List Nat):VF:=fun env=>(fi env).bind fun ds=>if ds.length<1000000 then(bT kx fc fe (kF cap env) ds).map .lst else none
theorem xh{L:Addr→Prop}{env:Env}{σ:St}{H:Hp}{xs:List V}{ds:List D}{cap:List Nat}(he:EnvR K ns L env σ H)(hx:Rds K ns L H xs ds):EnvR K ns L (ds.map some++kF cap env) (xs.map some++cap.map fun i=>(σ[i]?).join) H:=by
 intro i d e
 by_cases hi:i<ds.length
 · rw[List.getElem?_append_left (by simpa using hi),List.getElem?_map] at e
   obtain⟨d',hd,e⟩:=Option.map_eq_some_iff.mp e
   cases e
   obtain⟨v,hv,rv⟩:=hx.get hd
   exact⟨v,by rw[List.getElem?_append_left (by rw[List.length_map,hx.len];exact hi),List.getElem?_map,hv];rfl,rv⟩
 · rw[List.getElem?_append_right (by simpa using hi),List.length_map] at e
   have q:=uO (cap:=cap) (x:= .non) he .non (i-ds.length+1) d e
   obtain⟨v,hv,rv⟩:=q
   refine⟨v, ?_,rv⟩
   rw[List.getElem?_append_right (by rw[List.length_map,hx.len];omega),List.length_map,hx.len]
   exact hv
theorem jS{kx:Nat}{wi:TI}{tc:TT}{te:TE}{fi:AF}{fc:BF}{fe:VF}{cap:List Nat}(hi:PuI K ns wi fi)(hc:PuT K ns tc fc)(he:PuE K ns te fe):PuF K ns (tH wi kx (yo K kx (tQ 0 kx)) tc te cap) (gX kx fi fc fe cap):=by
 intro L env σ H Q d hE hf k
 obtain⟨ds,ei,hf⟩:=bnd hf
 split at hf
 case isFalse=>cases hf
 rename_i hn
 obtain⟨out,eo,rfl⟩:=Option.map_eq_some_iff.mp hf
 refine hi L env σ H _ ds hE ei fun J H1 S1 it=> ?_
 intro acc ha
 have hacc:H acc=none:=ie S1 ha
 have E1:EnvR K ns (Lx L H acc) env σ H1:=(hE.mono2 (L':=Lx L H acc) (fun a o e l=>⟨.inl l,aM e hacc⟩) .refl).same S1
 refine⟨fun i m H2=>m=ds.length-i∧i≤ds.length∧Same H1 H2∧∃ys dn h9,H2 acc=some (.lst ys)∧Rds K ns (Lx L H acc) H2 ys dn∧ys.length≤i∧bT kx fc fe (kF cap env) (ds.drop i)=some h9∧dn++h9=out,⟨_,rfl,Nat.zero_le _,aV ha _,[],[],out,aX, .nil,Nat.le_refl _,by rw[List.drop_zero];exact eo,rfl⟩, ?_⟩
 rintro i m H2 ⟨rfl,hle,S2,ys,dn,h9,ea,rd,hy,ec,ed⟩
 obtain⟨go,stop⟩:=it (Lx L H acc) i H2 (fun a o e l=>⟨l,aM e ha⟩) (.of S2)
 by_cases hlt:i<ds.length
 · obtain⟨g,yl⟩:=go ds[i] (List.getElem?_eq_getElem hlt)
   refine .inr ⟨g,fun x H3 y=> ?_⟩
   obtain⟨S3,rx⟩:=yl x H3 y
   have ea3:=S3 _ _ ea
   have rx2:Rd K ns (Lx L H acc) H3 x ds[i]:=rx.mono2 (fun a o e l=>by
    rcases l with l|l
    · exact l
    · exact⟨.inr (ie (S1.trans S2) l),fun z=>by rw[z,ea] at l;cases l⟩) .refl
   rw[List.drop_eq_getElem_cons hlt] at ec
   generalize ds[i]=di at rx2 ec
   cases di<;>first|(cases ec;done)|skip
   rename_i es
   rw[bT] at ec
   split at ec
   case isFalse=>cases ec
   rename_i hk
   cases rx2 with
   |tup et rt=>
    rename_i ta vs
    have hvl:vs.length=kx:=by rw[rt.len,hk]
    refine⟨_,vs,rfl,SqT.of et,hvl, ?_⟩
    have base:tQ 0 kx vs (List.replicate kx none++cap.map fun i=>(σ[i]?).join) H3=tQ ([]:List V).length kx vs (([]:List V).map some++(List.replicate kx none++cap.map fun i=>(σ[i]?).join)) H3:=rfl
    show tQ 0 kx vs (List.replicate kx none++cap.map fun i=>(σ[i]?).join) H3 _
    rw[base]
    refine uR kx [] vs hvl ⟨⟨by simp[kX,hvl],fun j v hj=> ?_⟩, ?_⟩
    · unfold kX at hj
      by_cases hjk:j<kx
      · rw[List.getElem?_append_left (by simpa using hjk)] at hj
        have:=List.eq_of_mem_replicate (List.mem_of_getElem? hj)
        cases this
      · rw[List.getElem?_append_right (by simpa using hjk),List.length_replicate] at hj
        rw[List.nil_append,List.getElem?_append_right (by rw[List.length_map,hvl];omega),List.length_map,hvl]
        exact hj
    have E3:EnvR K ns (Lx L H acc) (es.map some++kF cap env) (([]++vs).map some++cap.map fun i=>(σ[i]?).join) H3:=xh ((E1.same S2).same S3) rt
    obtain⟨b,eb,ec⟩:=bnd ec
    refine hc _ _ _ _ _ b E3 eb fun H4 S4=> ?_
    have ea4:=S4 _ _ ea3
    cases b with
    |false=>
     rw[if_neg Bool.false_ne_true] at ec ⊢
     exact⟨ds.length-(i+1),by omega,rfl,hlt,S2.trans (S3.trans S4),ys,dn,h9,ea4,rd.same (S3.trans S4),by omega,ec,ed⟩
    |true=>
     rw[if_pos rfl] at ec ⊢
     obtain⟨y,ey,ec⟩:=bnd ec
     obtain⟨rest',er,rfl⟩:=Option.map_eq_some_iff.mp ec
     refine he _ _ _ _ _ y (E3.same S4) ey fun v H5 S5 rv=> ?_
     have ea5:=S5 _ _ ea4
     have SS:=S3.trans (S4.trans S5)
     have up:∀{L3:Addr→Prop},¬L3 acc→KeepL L3 H5 (upd H5 acc (.lst (ys++[v]))):=fun {L3} hl a o e hm=>by
      by_cases z:a=acc
      · subst z
        rw[ea5] at e
        cases e
        exact absurd (hm rfl) hl
      · rw[aR z];exact e
     have rv2:Rd K ns (Lx L H acc) H5 v y:=rv.mono2 (fun a o e l=>by
      rcases l with l|l
      · exact l
      · exact⟨.inr (ie (S1.trans (S2.trans (S3.trans S4))) l),fun z=>by rw[z,ea4] at l;cases l⟩) .refl
     refine⟨ys,ea5,Nat.lt_of_le_of_lt hy (Nat.lt_trans hlt (Nat.lt_trans hn (by decide))),ds.length-(i+1),by omega,rfl,hlt,fun a o e=> ?_,ys++[v],dn++[y],rest',aX, ?_, ?_,er,by rw[←ed];simp⟩
     · rw[aR (aM e ha)]
       exact SS _ _ (S2 _ _ e)
     · exact((rd.same SS).append (.cons rv2 .nil)).mono (fun _ q=>q) (up fun q=>q.2 rfl)
     · rw[List.length_append,List.length_singleton];omega
 · have hi':ds.length=i:=by omega
   refine .inl ⟨stop hi', ?_⟩
   rw[List.drop_of_length_le (by omega)] at ec
   cases ec
   rw[List.append_nil] at ed
   subst ed
   exact k acc ys dn H2 rfl (S1.trans S2) hacc ea rd
end
end PD
namespace PD
open PySem L2
section
variable{K:W.Frag}{ns:List Str}
theorem oS{t:TE}{g:D→D→Option D}{a b:VF}(h:PuE K ns t (oD g a b)):PuE K ns t (oD (aa g) a b):=by rw[ap];exact h
theorem uS{t:TE}{g:D→Option D}{a:VF}(h:PuE K ns t (uD g a)):PuE K ns t (uD (aa g) a):=by rw[ap];exact h
theorem cS{t:TE}{g:List D→Option D}{a:AF}(h:PuE K ns t (av g a)):PuE K ns t (av (aa g) a):=by rw[ap];exact h
theorem cSF{t:TE}{g:List D→Option D}{a:AF}(h:PuF K ns t (av g a)):PuF K ns t (av (aa g) a):=by rw[ap];exact h
theorem slS{t:TE}{g:D→Option Int→Option Int→Option D}{a:VF}{b c:OF}(h:PuE K ns t (slD g a b c)):PuE K ns t (slD (aa g) a b c):=by rw[ap];exact h
theorem iS{t:TI}{g:List D→Option (List D)}{a:AF}(h:PuI K ns t (iaD g a)):PuI K ns t (iaD (aa g) a):=by rw[ap];exact h
theorem Iv.store0{fl:List Bool}{L0:Addr→Prop}{H0 H:Hp}{O:List (Option Addr)}{env:Env}{σ:St}(I:Iv K ns fl L0 H0 O env σ H){i:Nat}{v:V}{d:D}(hi:fl[i]? =some false)(r:Rd K ns (Lm L0 H0 O) H v d):Iv K ns fl L0 H0 O (env.set i (some d)) (σ.set i (some v)) H:=by
 have:=I.store (i:=i) r
 have e1:fl.set i false=fl:=jR hi
 have e2:O.set i none=O:=jR (I.free hi)
 rw[e1,e2] at this
 exact this
def rp(i j:Nat)(fa:AF):SF:=fun env=>(fa env).bind fun
 |[a,b]=>some (.nx ((env.set i (some a)).set j (some b)))
 |_=>none
theorem Dh{fr:Fr}{lf fl:List Bool}(i j:Nat){t:TA}{f:AF}(h:PuA K ns 2 t f)(hi:fl[i]? =some false)(hj:fl[j]? =some false):PuS K ns fr lf fl (Cv i j t) (rp i j (mk fl f)) fl:=by
 intro L0 H0 O env σ H E I k
 unfold rp mk at k
 cases e:f (d7 fl env) with
 |none=>rw[e] at k;exact k.elim
 |some ds=>
  rw[e] at k
  refine h _ (d7 fl env) σ H _ ds I.strict e fun vs H' hl S r=> ?_
  match ds,r,hl,k with
  |[a,b],r,_,k=>
   obtain⟨x,y,rfl,r1,r2⟩:=w5 r
   refine⟨x,y,rfl, ?_⟩
   have I':=I.same S
   have m1:=r1.mono (L':=Lm L0 H0 O) (fun _ q=>I.nwm q) .refl
   have m2:=r2.mono (L':=Lm L0 H0 O) (fun _ q=>I.nwm q) .refl
   exact k _ _ _ (.same S) ((I'.store0 hi m1).store0 hj m2)
  |[],_,hl,_=>cases hl
  |[_],_,hl,_=>cases hl
  |_::_::_::_,_,hl,_=>simp at hl
end
end PD
namespace L2
open PySem PySem.Spec PyProof.Rows
section
variable{X:Cx}
theorem hu1{n:Nat}(h:n+64<cLine):n+1<cLine:=Nat.lt_of_le_of_lt (by omega) h
theorem xi{P w K mg base k x ps sp n e es t p pos}(g:Got P w K mg base k x ps sp)(e1:X.prog=P)(e2:X.w=w)(e3:X.K=K)(e4:X.mg=mg)(e5:X.base=base)(hr:Room n X.A)(hk:k≤n)(hg:Gl X x)(ha:PA X (e::es) t)(hdb:(x==("__debug__":Str))=false:=by decide)
 (he:starEach (e::es) X.env=(false,eval e X.env)::starEach es X.env:=by rfl)(hpl:(backTo pos (starEach es X.env)).any (·.1)=false:=by rfl):
 PE X (.Call (.Name x p) (e::es) [] pos) (oy sp [] E0 t):=by
 subst e1 e2 e3 e4 e5
 exact aJ g hr hk hg ha hdb he hpl
end
end L2
namespace PD
open PySem L2
def nj:D→Option Key
 | .int i=>some (.inl i)
 | .str s=>some (.inr s)
 |_=>none
def kL:List D→Option (List Key)
 |[]=>some []
 |d::r=>(nj d).bind fun k=>(kL r).map (k:: ·)
def n6{κ:Type}[DecidableEq κ]:List κ→List D→κ→Option D
 |j::ks,d::ds,k=>if j=k then some d else n6 ks ds k
 |_,_,_=>none
def n8{κ:Type}[DecidableEq κ]:List κ→List D→κ→D→List D
 |j::ks,d::ds,k,v=>(if j=k then v else d)::n8 ks ds k v
 |_,_,_,_=>[]
def uT:D→D→Option (Option D)
 | .dk ks ds,k=>(nj k).map fun k=>n6 ks ds k
 | .dt ks ds, .tup xs=>(kL xs).map fun k=>n6 ks ds k
 |_,_=>none
def y3(d k:D):Option D:=(uT d k).join
def xj(d k x:D):Option D:=(uT d k).map fun o=>o.getD x
def uU:D→D→D→Option D
 | .dk ks ds,k,v=>(nj k).bind fun k=>if ks.length<1000000 then some (if(ks.any fun j=>decide (j=k))=true then .dk ks (n8 ks ds k v) else .dk (ks++[k]) (ds++[v])) else none
 | .dt ks ds, .tup xs,v=>(kL xs).bind fun k=>if ks.length<1000000 then some (if(ks.any fun j=>decide (j=k))=true then .dt ks (n8 ks ds k v) else .dt (ks++[k]) (ds++[v])) else none
 |_,_,_=>none
section
variable{K:W.Frag}{ns:List Str}{L:Addr→Prop}{H:Hp}
theorem fw{α β:Type}{a:α}{f:α→Option β}:(some a).bind f=f a:=rfl
theorem tR{v:V}{d:D}{k:Key}(r:Rd K ns L H v d)(h:nj d=some k):v=kV k:=by
 cases r<;>first|(cases h;done)|(cases h;rfl)
theorem uV{vs:List V}{ds:List D}{ks:List Key}(r:Rds K ns L H vs ds)(h:kL ds=some ks):vs=ks.map kV:=by
 induction vs generalizing ds ks with
 |nil=>rw[r.nilL] at h;cases h;rfl
 |cons v vs ih=>
  obtain⟨d,es,rfl,a,t⟩:=r.consL
  obtain⟨k,e1,h⟩:=bnd h
  obtain⟨l,e2,rfl⟩:=Option.map_eq_some_iff.mp h
  rw[tR a e1,ih t e2]
  rfl
theorem tS{κ:Type}[DecidableEq κ](k:κ):∀{kvs:List (κ×V)} {ds:List D},Rds K ns L H (kvs.map (·.2)) ds→(n6 (kvs.map (·.1)) ds k=none∧kZ kvs k=none)∨∃d v,n6 (kvs.map (·.1)) ds k=some d∧kZ kvs k=some v∧Rd K ns L H v d
 |[],_, .nil=> .inl ⟨rfl,rfl⟩
 |(j,w)::kvs,_, .cons (d:=d) (ds:=ds) a t=>by
  by_cases e:j=k
  · refine .inr ⟨d,w, ?_,ld (p:=(j,w)) e,a⟩
    show (if j=k then some d else _)=_
    rw[if_pos e]
  · have q:n6 (((j,w)::kvs).map (·.1)) (d::ds) k=n6 (kvs.map (·.1)) ds k:=by
     show (if j=k then some d else _)=_
     rw[if_neg e]
    rw[q,lg (p:=(j,w)) e]
    exact tS k t
theorem uW{x y:V}{d k:D}{o:Option D}(rx:Rd K ns L H x d){L':Addr→Prop}(ry:Rd K ns L' H y k)(h:uT d k=some o):∃a,x= .ref a∧IsD H a∧((o=none∧DGet H a y none)∨∃e v,o=some e∧DGet H a y (some v)∧Rd K ns L H v e):=by
 cases rx with
 | @dk a kvs ds l e r=>
   obtain⟨j,e1,rfl⟩:=Option.map_eq_some_iff.mp h
   have:=tR ry e1
   subst this
   refine⟨a,rfl, .inl ⟨_, .inl e⟩, ?_⟩
   have g:=DGet.k (k:=j) e
   rcases tS j r with⟨q1,q2⟩|⟨u,v,q1,q2,q3⟩
   · exact .inl ⟨q1,by rw[q2] at g;exact g⟩
   · exact .inr ⟨u,v,q1,by rw[q2] at g;exact g,q3⟩
 | @dt a kvs ds l e r=>
   cases ry with
   | @tup b vs es e2 r2=>
     obtain⟨j,e1,rfl⟩:=Option.map_eq_some_iff.mp h
     have:=uV r2 e1
     subst this
     refine⟨a,rfl, .inr ⟨_, .inl e⟩, ?_⟩
     have g:=DGet.t e e2
     rcases tS j r with⟨q1,q2⟩|⟨u,v,q1,q2,q3⟩
     · exact .inl ⟨q1,by rw[q2] at g;exact g⟩
     · exact .inr ⟨u,v,q1,by rw[q2] at g;exact g,q3⟩
   |_=>cases h
 |_=>cases h
theorem y4{ta tb:TE}{fa fb:VF}(ha:PuE K ns ta fa)(hb:PuE K ns tb fb):PuE K ns (Ad ta tb) (oD y3 fa fb):=by
 intro L env σ H Q d he hf k
 obtain⟨a,ea,hf⟩:=bnd hf
 obtain⟨b,eb,hf⟩:=bnd hf
 refine ha L env σ H _ a he ea fun x H1 S1 r1=> ?_
 refine hb L env σ H1 _ b (he.same S1) eb fun y H2 S2 r2=> ?_
 unfold y3 at hf
 cases e:uT a b with
 |none=>rw[e] at hf;cases hf
 |some o=>
  rw[e] at hf
  have hf:o=some d:=hf
  subst hf
  obtain⟨p,rfl,_,h⟩:=uW (r1.same S2) r2 e
  rcases h with⟨z,_⟩|⟨e',v,z,g,rv⟩
  · cases z
  · cases z
    exact⟨p,v,rfl,g,k v H2 (S1.trans S2) rv⟩
def xk(fa fb fc:VF):VF:=fun env=>(fa env).bind fun a=>(fb env).bind fun b=>(fc env).bind fun c=>xj a b c
theorem oK{ta tb tc:TE}{fa fb fc:VF}(ha:PuE K ns ta fa)(hb:PuE K ns tb fb)(hc:PuE K ns tc fc):PuE K ns (wS ta tb tc) (xk fa fb fc):=by
 intro L env σ H Q d he hf k
 obtain⟨a,ea,hf⟩:=bnd hf
 obtain⟨b,eb,hf⟩:=bnd hf
 obtain⟨c,ec,hf⟩:=bnd hf
 obtain⟨o,eo,ed⟩:=Option.map_eq_some_iff.mp hf
 refine ha L env σ H _ a he ea fun x H1 S1 r1=> ?_
 have isd:∃p,x= .ref p∧IsD H1 p:=by
  cases r1 with
  |dk l e r=>exact⟨_,rfl, .inl ⟨_, .inl e⟩⟩
  |dt l e r=>exact⟨_,rfl, .inr ⟨_, .inl e⟩⟩
  |_=>cases eo
 obtain⟨p,rfl,hp⟩:=isd
 refine⟨p,rfl,hp, ?_⟩
 refine hb L env σ H1 _ b (he.same S1) eb fun y H2 S2 r2=> ?_
 refine hc L env σ H2 _ c (he.same (S1.trans S2)) ec fun z H3 S3 r3=> ?_
 obtain⟨p',e',_,h⟩:=uW (r1.same (S2.trans S3)) (r2.same S3) eo
 cases e'
 rcases h with⟨rfl,g⟩|⟨e',v,rfl,g,rv⟩
 · refine⟨none,g,k _ H3 (S1.trans (S2.trans S3)) ?_⟩
   cases ed
   exact r3.mono (fun _ q=>q.elim .inl fun w=> .inr (ie (S1.trans S2) w)) .refl
 · refine⟨some v,g,k _ H3 (S1.trans (S2.trans S3)) ?_⟩
   cases ed
   exact rv
theorem pQ{κ:Type}[DecidableEq κ](k:κ){v:V}{d:D}(rv:Rd K ns L H v d):∀{kvs:List (κ×V)} {ds:List D},Rds K ns L H (kvs.map (·.2)) ds→Rds K ns L H ((kvs.map fun kv=>if kv.1=k then(kv.1,v) else kv).map (·.2)) (n8 (kvs.map (·.1)) ds k d)
 |[],_, .nil=> .nil
 |(j,w)::kvs,_, .cons (d:=e) (ds:=ds) a t=>by
  show Rds K ns L H ((if j=k then(j,v) else(j,w)).2::_) ((if j=k then d else e)::_)
  by_cases z:j=k
  · rw[if_pos z,if_pos z]
    exact .cons rv (pQ k rv t)
  · rw[if_neg z,if_neg z]
    exact .cons a (pQ k rv t)
theorem rq{κ:Type}[DecidableEq κ](k:κ){v:V}(kvs:List (κ×V)):(kvs.map fun kv=>if kv.1=k then(kv.1,v) else kv).map (·.1)=kvs.map (·.1):=by
 rw[List.map_map]
 refine List.map_congr_left fun kv _=> ?_
 show (if kv.1=k then(kv.1,v) else kv).1=kv.1
 split<;>rfl
theorem rA{κ:Type}[DecidableEq κ](k:κ)(kvs:List (κ×V)):(kvs.any fun kv=>decide (kv.1=k))=((kvs.map (·.1)).any fun j=>decide (j=k)):=by
 rw[List.any_map]
 rfl
def oM(i:Nat)(fk fv:VF):SF:=fun env=>(fv env).bind fun v=>(fk env).bind fun k=>if v.flat=true then(env[i]?).join.bind fun d=>(uU d k v).bind fun e=>some (.nx (env.set i (some e))) else none
theorem xl{fr:Fr}{lf fl:List Bool}(i:Nat){ty tv:TE}{fk fv:VF}(hk:PuE K ns ty fk)(hv:PuE K ns tv fv)(hi:fl[i]? =some true):PuS K ns fr lf fl (Ae (oY i) ty tv) (oM i fk fv) fl:=by
 intro L0 H0 O env σ H E I k
 unfold oM at k
 cases ev:fv env with
 |none=>rw[ev] at k;exact k.elim
 |some v=>
  rw[ev] at k
  cases ek:fk env with
  |none=>rw[fw,ek] at k;exact k.elim
  |some y=>
   rw[fw,ek,fw] at k
   by_cases hfl:v.flat=true
   · rw[if_pos hfl] at k
     obtain⟨p,ho⟩:=I.owned hi
     refine hv _ env σ H _ v I.weak ev fun w H1 S1 rv=> ?_
     have I1:=I.same S1
     obtain⟨h0,hs,o,d,e,hp,r⟩:=I1.ow i p ho
     refine⟨_,hs, ?_⟩
     refine hk _ env σ H1 _ y I1.weak ek fun u H2 S2 ry=> ?_
     have I2:=I1.same S2
     have hp2:=S2 _ _ hp
     have rv2:Rd K ns (Lm L0 H0 O) H2 w v:=(rv.same S2).flat hfl
     rw[e] at k
     have k:Fin K ns fr lf fl L0 H0 O H E ((uU d y v).bind fun e=>some (.nx (env.set i (some e)))):=k
     have T:∀{o':HO},Step O H O (upd H2 p o'):=fun {o'}=>(Step.same (S1.trans S2)).trans (.alter (List.mem_of_getElem? ho))
     rcases(r.same S2).case with⟨vs,ds,rfl,rfl,r3⟩|⟨kvs,ds,rfl,rfl,r3⟩|⟨kvs,ds,rfl,rfl,r3⟩
     · exact k.elim
     · cases ej:nj y with
       |none=>exact Fin.no k (by show ((nj y).bind _).bind _=_;rw[ej];rfl)
       |some j=>
        have hz:=tR ry ej
        subst hz
        have k:Fin K ns fr lf fl L0 H0 O H E (((nj y).bind fun j=>if(kvs.map (·.1)).length<1000000 then some (if((kvs.map (·.1)).any fun i=>decide (i=j))=true then D.dk (kvs.map (·.1)) (n8 (kvs.map (·.1)) ds j v) else .dk (kvs.map (·.1)++[j]) (ds++[v])) else none).bind fun e=>some (.nx (env.set i (some e)))):=k
        rw[ej,fw] at k
        by_cases hl:(kvs.map (·.1)).length<1000000
        · rw[if_pos hl,fw] at k
          refine⟨p,_,rfl,DPut.k hp2 (by rw[List.length_map] at hl;exact Nat.lt_trans hl (by decide)), ?_⟩
          unfold lb
          rw[rA]
          by_cases hb:((kvs.map (·.1)).any fun i=>decide (i=j))=true
          · rw[if_pos hb] at k ⊢
            exact k _ _ _ T (I2.alterO ho ⟨rq j kvs,pQ j rv2 r3⟩)
          · rw[if_neg hb] at k ⊢
            exact k _ _ _ T (I2.alterO ho ⟨by rw[List.map_append];rfl,by rw[List.map_append];exact r3.append (.cons rv2 .nil)⟩)
        · rw[if_neg hl] at k
          exact k.elim
     · cases y with
       |tup xs=>
        cases ej:kL xs with
        |none=>exact Fin.no k (by show ((kL xs).bind _).bind _=_;rw[ej];rfl)
        |some j=>
         cases ry with
         | @tup b us es eb rb=>
           have hz:=uV rb ej
           subst hz
           have k:Fin K ns fr lf fl L0 H0 O H E (((kL xs).bind fun j=>if(kvs.map (·.1)).length<1000000 then some (if((kvs.map (·.1)).any fun i=>decide (i=j))=true then D.dt (kvs.map (·.1)) (n8 (kvs.map (·.1)) ds j v) else .dt (kvs.map (·.1)++[j]) (ds++[v])) else none).bind fun e=>some (.nx (env.set i (some e)))):=k
           rw[ej,fw] at k
           by_cases hl:(kvs.map (·.1)).length<1000000
           · rw[if_pos hl,fw] at k
             refine⟨p,_,rfl,DPut.t hp2 eb (by rw[List.length_map] at hl;exact Nat.lt_trans hl (by decide)), ?_⟩
             unfold lb
             rw[rA]
             by_cases hb:((kvs.map (·.1)).any fun i=>decide (i=j))=true
             · rw[if_pos hb] at k ⊢
               exact k _ _ _ T (I2.alterO ho ⟨rq j kvs,pQ j rv2 r3⟩)
             · rw[if_neg hb] at k ⊢
               exact k _ _ _ T (I2.alterO ho ⟨by rw[List.map_append];rfl,by rw[List.map_append];exact r3.append (.cons rv2 .nil)⟩)
           · rw[if_neg hl] at k
             exact k.elim
       |_=>exact k.elim
   · rw[if_neg hfl] at k
     exact k.elim
theorem y6{fr:Fr}{lf fl:List Bool}(i:Nat)(hi:i<fl.length):PuS K ns fr lf fl (qP wQ (jI i)) (aH i (cD (.dk [] []))) (fl.set i true):=by
 intro L0 H0 O env σ H E I k
 refine fun p hp=> ?_
 exact k _ _ _ (.take (aV hp _) hp) (I.takeO (vs:= .dK []) (ds:= .dk [] []) (aV hp _) hp aX ⟨rfl, .nil⟩ (by rw[←I.fl,List.length_map] at hi;exact hi))
end
end PD
namespace PD
open PySem L2
def chD(g g':D→D→Option D)(fa fb fc:VF):VF:=fun env=>(fa env).bind fun a=>(fb env).bind fun b=>(g a b).bind fun
 | .bl x=>if x=true then(fc env).bind fun c=>g' b c else some (.bl false)
 |_=>none
section
variable{K:W.Frag}{ns:List Str}
theorem R2P.s{r:R2}{g:D→D→Option D}(h:R2P K ns r g):R2P K ns r (aa g):=by rw[ap];exact h
theorem rB{r r':R2}{g g':D→D→Option D}{ta tb tc:TE}{fa fb fc:VF}(hr:R2P K ns r g)(hr':R2P K ns r' g')(ha:PuE K ns ta fa)(hb:PuE K ns tb fb)(hc:PuE K ns tc fc):PuE K ns (wx r r' ta tb tc) (chD (aa g) (aa g') fa fb fc):=by
 intro L env σ H Q d he hf k
 obtain⟨a,ea,hf⟩:=bnd hf
 obtain⟨b,eb,hf⟩:=bnd hf
 obtain⟨z,ez,hf⟩:=bnd hf
 refine ha L env σ H _ a he ea fun x H1 S1 rx=>hb (Nw L H) env σ H1 _ b (he.nw S1) eb fun y H2 S2 ry=> ?_
 refine hr.s (Nw (Nw L H) H1) H2 x y a b z _ (rx.mono (fun _=> .inl) (.of S2)) ry ez fun v H3 S3 rv=> ?_
 obtain⟨c,rfl,hf⟩:=pF hf
 refine⟨c,rv.blI, ?_⟩
 cases c with
 |false=>
  rw[if_neg Bool.false_ne_true]
  cases hf
  exact k _ _ (S1.trans (S2.trans S3)) (.bl _)
 |true=>
  rw[if_pos rfl]
  obtain⟨c,ec,hf⟩:=bnd hf
  exact hc (Nw (Nw (Nw L H) H1) H2) env σ H3 _ c (((he.nw S1).nw S2).nw S3) ec fun w H4 S4 rw'=>
   hr'.s (Nw (Nw (Nw (Nw L H) H1) H2) H3) H4 y w b c d Q (ry.mono (fun _ q=> .inl (.inl q)) (.of (S3.trans S4))) rw' hf fun v H5 S5 r=>k v H5 (S1.trans (S2.trans (S3.trans (S4.trans S5)))) (r.mono (fun q hq=>nw2 S1 (nw2 S2 (nw2 S3 (nw2 S4 hq)))) .refl)
end
end PD
namespace L2
open PySem PySem.Spec PyProof.Rows
section
variable{prog:Program}{w:World}{A:Around}{R:Result→Shared→Prop}{J:Addr}{fp wr:List Addr}{G:Array GenState→Array GenState→Prop}{n:Nat}{P:Nat→Value→Prop}{St:Nat→Shared→Prop}
end
section
variable{prog:Program}{w:World}{A:Around}{E:Value→Shared→Prop}{s:Shared}
end
section
variable{X:Cx}
end
section
variable{prog:Program}{w:World}{A:Around}{E:Value→Shared→Prop}{s:Shared}
end
section
variable{prog:Program}{w:World}{A:Around}{E:Value→Shared→Prop}{s:Shared}
end
section
variable{X:Cx}{K:W.Frag}
end
section
variable{prog:Program}{w:World}{A:Around}{E:Value→Shared→Prop}{s:Shared}
end
section
variable{X:Cx}
end
open Builtin Builtin.Str
section
variable{prog:Program}{w:World}{A:Around}{E:Value→Shared→Prop}{s:Shared}
end
section
variable{X:Cx}
end
section
variable{prog:Program}{w:World}{A:Around}{E:Value→Shared→Prop}{s:Shared}
end
end L2
namespace PD
open PySem L2
section
variable{K:W.Frag}{ns:List Str}
end
end PD
namespace PD
open PySem L2
section
variable{K:W.Frag}{ns:List Str}
end
end PD
namespace PD
open PySem L2
section
variable{K:W.Frag}{ns:List Str}
end
end PD
namespace PD
open PySem L2
open Builtin Builtin.Str
section
variable{K:W.Frag}{ns:List Str}
end
end PD
namespace PD
open PySem L2
def uX(g:List D→Option D)(fa:AF):VF:=fun env=>(fa env).bind fun as=>if flats as=true then g as else none
section
variable{K:W.Frag}{ns:List Str}{fr:Fr}{lf fl fl':List Bool}{L L' L0:Addr→Prop}{H H0:Hp}{O:List (Option Addr)}{env:Env}{σ:St}
end
section
variable(K:W.Frag)(ns:List Str)
def PuX(t:TE)(f:VF):Prop:=∀(L:Addr→Prop) (env:Env) (σ:St) (H:Hp) (Q:VK) (d:D),EnvR K ns L env σ H→f env=some d→(∀v H',Same H H'→Rd K ns (fun a=>H a=none) H' v d→Q v H')→t σ H Q
end
section
variable{K:W.Frag}{ns:List Str}{fr:Fr}{lf fl fl':List Bool}
end
end PD
namespace Tim
open PySem PyProof.Rows
abbrev SM:=StateT SortSt Sem
def g4:Bool→Keyed→Array Keyed→Nat→Nat→Nat→SM (Option Nat):=sortPriv%PySem.Builtin.gallop
def jt(left:Bool)(key:Keyed)(arr:Array Keyed)(base i:Nat):SM (Option Bool):=do
 let x ←elem' arr (base+i)
 if left then lt' x key else return (←lt' key x).map (!·)
def y7(left:Bool)(key:Keyed)(arr:Array Keyed)(base n lo0 hi0:Nat):SM (Option Nat):=do
 let mut lo:=lo0
 let mut hi:=hi0
 for _ in [0:n] do
  if lo≥hi then break
  let m:=lo+(hi-lo)/2
  let some more ←jt left key arr base m|return none
  if more then lo:=m+1 else hi:=m
 return some hi
theorem tT(left:Bool)(key:Keyed)(arr:Array Keyed)(base n hint:Nat):g4 left key arr base n hint=(do
 let some right ←jt left key arr base hint|return none
 let mut lastofs:=0
 let mut ofs:=1
 if right then
  for _ in [0:n] do
   if ofs≥n-hint then break
   let some more ←jt left key arr base (hint+ofs)|return none
   if !more then break
   lastofs:=ofs
   ofs:=2*ofs+1
  y7 left key arr base n (hint+lastofs+1) (hint+min ofs (n-hint))
 else
  for _ in [0:n] do
   if ofs≥hint+1 then break
   let some found ←jt left key arr base (hint-ofs)|return none
   if found then break
   lastofs:=ofs
   ofs:=2*ofs+1
  y7 left key arr base n (hint+1-min ofs (hint+1)) (hint-lastofs)):=rfl
section
variable{prog:Program}{w:World}{A:Around}{E:Value→Shared→Prop}{s:Shared}{κ:SortKind}{P:Keyed→Prop}{blt:Keyed→Keyed→Bool}
structure Asks(prog:Program)(w:World)(A:Around)(E:Value→Shared→Prop)(s:Shared)(κ:SortKind)(P:Keyed→Prop)(blt:Keyed→Keyed→Bool):Prop where
 ask:∀(x y:Keyed) (st:SortSt) (Q:Option Bool→SortSt→Prop),P x→P y→kindOf st=κ→Q (some (blt x y)) st→wpS (model prog w) A E s (lt' x y) Q st
 asym:∀x y,blt x y=true→blt y x=false
 tr:∀x y z,blt y x=false→blt z y=false→blt z x=false
theorem bj{st:SortSt}{arr:Array Keyed}{i:Nat}{p:Keyed}{Q:Keyed→SortSt→Prop}(e:arr[i]? =some p)(h:Q p st):wpS (model prog w) A E s (elem' arr i) Q st:=by
 rw[elem'_eq,e]
 exact wpS_pure h
theorem tU(a:Asks prog w A E s κ P blt){left:Bool}{key x:Keyed}{arr:Array Keyed}{base i:Nat}{st:SortSt}{Q:Option Bool→SortSt→Prop}(hk:kindOf st=κ)(e:arr[base+i]? =some x)(hx:P x)(hkey:P key)
 (h:Q (some (if left then blt x key else !blt key x)) st):wpS (model prog w) A E s (jt left key arr base i) Q st:=by
 unfold jt
 refine wpS_bind (bj e ?_)
 cases left with
 |true=>exact a.ask x key st _ hx hkey hk h
 |false=>exact wpS_bind (a.ask key x st _ hkey hx hk (wpS_pure h))
theorem tV(a:Asks prog w A E s κ P blt){left:Bool}{key:Keyed}{arr:Array Keyed}{base n hint:Nat}{st:SortSt}{Q:Option Nat→SortSt→Prop}(hk:kindOf st=κ)(hkey:P key)(hn:hint<n)(f:Nat→Bool)
 (hf:∀i,i<n→∃x,arr[base+i]? =some x∧P x∧(if left then blt x key else !blt key x)=f i)(mono:∀i j,i≤j→j<n→f j=true→f i=true)
 (h:∀k,k≤n→(∀i,i<k→f i=true)→(∀i,k≤i→i<n→f i=false)→Q (some k) st):wpS (model prog w) A E s (g4 left key arr base n hint) Q st:=by
 have by':∀(i:Nat) (Q:Option Bool→SortSt→Prop),i<n→Q (some (f i)) st→wpS (model prog w) A E s (jt left key arr base i) Q st:=fun i Q hi q=>by
  obtain⟨x,e,hx,ef⟩:=hf i hi
  exact tU a hk e hx hkey (by rw[ef];exact q)
 have mono':∀i j,i≤j→j<n→f i=false→f j=false:=fun i j hij hj e=>by
  cases ej:f j with
  |false=>rfl
  |true=>rw[mono i j hij hj ej] at e;cases e
 have fin:∀lo hi,lo≤hi→hi≤n→(∀i,i<lo→f i=true)→(∀i,hi≤i→i<n→f i=false)→wpS (model prog w) A E s (y7 left key arr base n lo hi) Q st:=by
  intro lo hi hlh hhn hlo hhi
  unfold y7
  refine wpS_bind (wpS_mono (wpS_forRange (I:=fun x c st'=>st'=st∧∃lo hi,c=(none,lo,hi)∧lo≤hi∧hi≤n∧hi-lo≤n-x∧(∀i,i<lo→f i=true)∧(∀i,hi≤i→i<n→f i=false))
   (Q:=fun c st'=>st'=st∧∃hi,c=(none,hi,hi)∧hi≤n∧(∀i,i<hi→f i=true)∧(∀i,hi≤i→i<n→f i=false)) ?_ ?_ ⟨rfl,lo,hi,rfl,hlh,hhn,by omega,hlo,hhi⟩) ?_)
  · rintro x c st' _ hx ⟨rfl,lo,hi,rfl,hlh,hhn,hm,hlo,hhi⟩
    dsimp only
    by_cases hge:lo≥hi
    · rw[if_pos hge]
      have:lo=hi:=by omega
      subst this
      exact wpS_pure ⟨rfl,lo,rfl,hhn,hlo,hhi⟩
    · rw[if_neg hge]
      refine wpS_bind (by' _ _ (by omega) ?_)
      dsimp only
      cases e:f (lo+(hi-lo)/2) with
      |true=>
       rw[if_pos rfl]
       exact wpS_pure ⟨rfl,_,_,rfl,by omega,hhn,by omega,fun i hi'=>mono i (lo+(hi-lo)/2) (by omega) (by omega) e,hhi⟩
      |false=>
       rw[if_neg Bool.false_ne_true]
       exact wpS_pure ⟨rfl,_,_,rfl,by omega,by omega,by omega,hlo,fun i h1 h2=>mono' (lo+(hi-lo)/2) i h1 h2 e⟩
  · rintro c st' ⟨rfl,lo,hi,rfl,hlh,hhn,hm,hlo,hhi⟩
    have:lo=hi:=by omega
    subst this
    exact⟨rfl,lo,rfl,hhn,hlo,hhi⟩
  · rintro c st' ⟨rfl,hi,rfl,hhn,hlo,hhi⟩
    exact wpS_pure (h hi hhn hlo hhi)
 rw[tT]
 refine wpS_bind (by' _ _ hn ?_)
 dsimp only
 cases e0:f hint with
 |true=>
  rw[if_pos rfl]
  refine wpS_bind (wpS_mono (wpS_forRange (I:=fun x c st'=>st'=st∧∃l o,c=(none,l,o)∧l<o∧x<o∧hint+l<n∧f (hint+l)=true)
   (Q:=fun c st'=>st'=st∧∃l o,c=(none,l,o)∧l<o∧hint+l<n∧f (hint+l)=true∧(o≥n-hint∨f (hint+o)=false)) ?_ ?_ ⟨rfl,0,1,rfl,by omega,by omega,by omega,e0⟩) ?_)
  · rintro x c st' _ hx ⟨rfl,l,o,rfl,hl,hxo,hln,el⟩
    dsimp only
    by_cases hge:o≥n-hint
    · rw[if_pos hge]
      exact wpS_pure ⟨rfl,l,o,rfl,hl,hln,el, .inl hge⟩
    · rw[if_neg hge]
      refine wpS_bind (by' _ _ (by omega) ?_)
      dsimp only
      cases eo:f (hint+o) with
      |true=>
       rw[if_neg (by decide)]
       exact wpS_pure ⟨rfl,_,_,rfl,by omega,by omega,by omega,eo⟩
      |false=>
       rw[if_pos (by decide)]
       exact wpS_pure ⟨rfl,l,o,rfl,hl,hln,el, .inr eo⟩
  · rintro c st' ⟨rfl,l,o,rfl,hl,hxo,hln,el⟩
    exact⟨rfl,l,o,rfl,hl,hln,el, .inl (by omega)⟩
  · rintro c st' ⟨rfl,l,o,rfl,hl,hln,el,ho⟩
    refine fin (hint+l+1) (hint+min o (n-hint)) (by omega) (by omega) (fun i hi=>mono i (hint+l) (by omega) hln el) (fun i h1 h2=> ?_)
    rcases ho with ho|ho
    · omega
    · by_cases hh:o≥n-hint
      · omega
      · exact mono' (hint+o) i (by omega) h2 ho
 |false=>
  rw[if_neg Bool.false_ne_true]
  refine wpS_bind (wpS_mono (wpS_forRange (I:=fun x c st'=>st'=st∧∃l o,c=(none,l,o)∧l<o∧x<o∧l≤hint∧f (hint-l)=false)
   (Q:=fun c st'=>st'=st∧∃l o,c=(none,l,o)∧l<o∧l≤hint∧f (hint-l)=false∧(o≥hint+1∨f (hint-o)=true)) ?_ ?_ ⟨rfl,0,1,rfl,by omega,by omega,by omega,e0⟩) ?_)
  · rintro x c st' _ hx ⟨rfl,l,o,rfl,hl,hxo,hln,el⟩
    dsimp only
    by_cases hge:o≥hint+1
    · rw[if_pos hge]
      exact wpS_pure ⟨rfl,l,o,rfl,hl,hln,el, .inl hge⟩
    · rw[if_neg hge]
      refine wpS_bind (by' _ _ (by omega) ?_)
      dsimp only
      cases eo:f (hint-o) with
      |true=>
       rw[if_pos rfl]
       exact wpS_pure ⟨rfl,l,o,rfl,hl,hln,el, .inr eo⟩
      |false=>
       rw[if_neg Bool.false_ne_true]
       exact wpS_pure ⟨rfl,_,_,rfl,by omega,by omega,by omega,eo⟩
  · rintro c st' ⟨rfl,l,o,rfl,hl,hxo,hln,el⟩
    exact⟨rfl,l,o,rfl,hl,hln,el, .inl (by omega)⟩
  · rintro c st' ⟨rfl,l,o,rfl,hl,hln,el,ho⟩
    refine fin (hint+1-min o (hint+1)) (hint-l) (by omega) (by omega) (fun i hi=> ?_) (fun i h1 h2=>mono' (hint-l) i h1 h2 el)
    rcases ho with ho|ho
    · omega
    · by_cases hh:o≥hint+1
      · omega
      · exact mono i (hint-o) (by omega) (by omega) ho
end
end Tim
namespace Tim
open PySem PyProof.Rows
section
variable{α:Type}{le:α→α→Prop}{B X Y Z:List α}
structure JJ(le:α→α→Prop)(B Z X Y:List α):Prop where
 p:(Z++(X++Y)).Perm B
 z:Z.Pairwise le
 x:X.Pairwise le
 y:Y.Pairwise le
 zx:∀a∈Z,∀b∈X,le a b
 zy:∀a∈Z,∀b∈Y,le a b
theorem JJ.swap(j:JJ le B Z X Y):JJ le B Z Y X:=⟨((List.perm_append_comm).append_left Z).trans j.p,j.z,j.y,j.x,j.zy,j.zx⟩
theorem JJ.mvX(j:JJ le B Z X Y)(k:Nat)(h:∀a∈X.take k,∀b∈Y,le a b):JJ le B (Z++X.take k) (X.drop k) Y:=by
 have hx:(X.take k++X.drop k).Pairwise le:=by rw[List.take_append_drop];exact j.x
 obtain⟨h1,h2,h3⟩:=List.pairwise_append.mp hx
 refine⟨?_,List.pairwise_append.mpr ⟨j.z,h1,fun a ha b hb=>j.zx a ha b (List.mem_of_mem_take hb)⟩,h2,j.y,fun a ha b hb=> ?_,fun a ha b hb=> ?_⟩
 · rw[List.append_assoc,←List.append_assoc (X.take k),List.take_append_drop]
   exact j.p
 · rcases List.mem_append.mp ha with q|q
   · exact j.zx a q b (List.mem_of_mem_drop hb)
   · exact h3 a q b hb
 · rcases List.mem_append.mp ha with q|q
   · exact j.zy a q b hb
   · exact h a q b hb
theorem JJ.mvY(j:JJ le B Z X Y)(k:Nat)(h:∀a∈Y.take k,∀b∈X,le a b):JJ le B (Z++Y.take k) X (Y.drop k):=(j.swap.mvX k h).swap
theorem JJ.fin(j:JJ le B Z X Y)(h:∀a∈X,∀b∈Y,le a b):(Z++(X++Y)).Perm B∧(Z++(X++Y)).Pairwise le:=
 ⟨j.p,List.pairwise_append.mpr ⟨j.z,List.pairwise_append.mpr ⟨j.x,j.y,h⟩,fun a ha b hb=>(List.mem_append.mp hb).elim (j.zx a ha b) (j.zy a ha b)⟩⟩
end
def nk:Array Keyed→Array Keyed→SM (Array Keyed):=sortPriv%PySem.Builtin.mergeLo
abbrev ju(st:SortSt)(g:Nat):SortSt:=SortSt.mk' (kindOf st) (arrOf st) (pendingOf st) g (failedOf st)
abbrev LoS:=Option (Array Keyed)×Array Keyed×Nat×Nat×Nat×Nat×Nat
def iR(a b out:Array Keyed)(ia ib:Nat):=out++a.extract ia a.size++b.extract ib b.size
def md(a b out:Array Keyed)(ia ib:Nat):=out++b.extract ib b.size++a.extract ia a.size
def uY(a b:Array Keyed)(mg ac bc:Nat)(out0:Array Keyed)(ia0 ib:Nat):SM (ForInStep LoS):=do
 let out:=out0.push (←elem' a ia0)
 let ia:=ia0+1
 if ia+1==a.size then return .done (some (md a b out ia ib),out,ia,ib,mg,ac,bc)
 if ac<7&&bc<7 then return .done (none,out,ia,ib,mg,ac,bc)
 return .yield (none,out,ia,ib,mg,ac,bc)
def uZ(a b:Array Keyed)(mg ac bc:Nat)(out0:Array Keyed)(ia ib0:Nat):SM (ForInStep LoS):=do
 let out:=out0.push (←elem' b ib0)
 let ib:=ib0+1
 if ib==b.size then return .done (some (iR a b out ia ib),out,ia,ib,mg,ac,bc)
 let some k ←g4 true (←elem' a ia) b ib (b.size-ib) 0|return .done (some (iR a b out ia ib),out,ia,ib,mg,ac,bc)
 if k>0 then
  if ib+k==b.size then return .done (some (iR a b (out++b.extract ib (ib+k)) ia (ib+k)),out++b.extract ib (ib+k),ia,ib+k,mg,ac,k)
  uY a b mg ac k (out++b.extract ib (ib+k)) ia (ib+k)
 else uY a b mg ac k out ia ib
def pR(a b:Array Keyed)(mg ac bc:Nat)(out:Array Keyed)(ia ib:Nat):SM (ForInStep LoS):=do
 modify fun s=>ju s mg
 let some k ←g4 false (←elem' b ib) a ia (a.size-ia) 0|return .done (some (iR a b out ia ib),out,ia,ib,mg,ac,bc)
 if k>0 then
  if ia+k+1==a.size then return .done (some (md a b (out++a.extract ia (ia+k)) (ia+k) ib),out++a.extract ia (ia+k),ia+k,ib,mg,k,bc)
  if ia+k==a.size then return .done (some (iR a b (out++a.extract ia (ia+k)) (ia+k) ib),out++a.extract ia (ia+k),ia+k,ib,mg,k,bc)
  uZ a b mg k bc (out++a.extract ia (ia+k)) (ia+k) ib
 else uZ a b mg k bc out ia ib
def xm(a b:Array Keyed)(c:LoS):SM (ForInStep LoS):=
 if c.2.2.2.2.1>1 then pR a b (c.2.2.2.2.1-1) c.2.2.2.2.2.1 c.2.2.2.2.2.2 c.2.1 c.2.2.1 c.2.2.2.1 else pR a b c.2.2.2.2.1 c.2.2.2.2.2.1 c.2.2.2.2.2.2 c.2.1 c.2.2.1 c.2.2.2.1
def xn(a b:Array Keyed)(mg:Nat)(c:Option (Array Keyed)×Array Keyed×Nat×Nat×Nat×Nat):SM (ForInStep (Option (Array Keyed)×Array Keyed×Nat×Nat×Nat×Nat)):=do
 let out:=c.2.1
 let ia:=c.2.2.1
 let ib:=c.2.2.2.1
 let some bWins ←lt' (←elem' b ib) (←elem' a ia)|return .done (some (iR a b out ia ib),out,ia,ib,c.2.2.2.2.1,c.2.2.2.2.2)
 if bWins then
  let out:=out.push (←elem' b ib)
  if ib+1==b.size then return .done (some (iR a b out ia (ib+1)),out,ia,ib+1,0,c.2.2.2.2.2+1)
  if c.2.2.2.2.2+1≥mg then return .done (none,out,ia,ib+1,0,c.2.2.2.2.2+1)
  return .yield (none,out,ia,ib+1,0,c.2.2.2.2.2+1)
 else
  let out:=out.push (←elem' a ia)
  if ia+1+1==a.size then return .done (some (md a b out (ia+1) ib),out,ia+1,ib,c.2.2.2.2.1+1,0)
  if c.2.2.2.2.1+1≥mg then return .done (none,out,ia+1,ib,c.2.2.2.2.1+1,0)
  return .yield (none,out,ia+1,ib,c.2.2.2.2.1+1,0)
def tW(a b:Array Keyed)(c:Option (Array Keyed)×Array Keyed×Nat×Nat×Nat):SM (ForInStep (Option (Array Keyed)×Array Keyed×Nat×Nat×Nat)):=do
 let d ←forIn [0:a.size+b.size] (none,c.2.1,c.2.2.1,c.2.2.2.1,0,0) fun _ d=>xn a b c.2.2.2.2 d
 match d.1 with
 |some r=>return .done (some r,d.2.1,d.2.2.1,d.2.2.2.1,c.2.2.2.2)
 |none=>
  rule "list.sort.gallop"
  let e ←forIn [0:a.size+b.size] (none,d.2.1,d.2.2.1,d.2.2.2.1,c.2.2.2.2+1,d.2.2.2.2.1,d.2.2.2.2.2) fun _ e=>xm a b e
  match e.1 with
  |some r=>return .done (some r,e.2.1,e.2.2.1,e.2.2.2.1,e.2.2.2.2.1)
  |none=>
   modify fun s=>ju s (e.2.2.2.2.1+1)
   return .yield (none,e.2.1,e.2.2.1,e.2.2.2.1,e.2.2.2.2.1+1)
theorem cP{β γ:Type}{m m':SM β}{f g:β→SM γ}(h1:m=m')(h2:∀b,f b=g b):(m>>=f)=(m'>>=g):=by rw[h1,funext h2]
theorem rC(a b:Array Keyed):nk a b=(do
 rule "list.sort.merge-lo"
 let b0 ←elem' b 0
 if 1==b.size then return iR a b #[b0] 0 1
 if 0+1==a.size then return md a b #[b0] 0 1
 let mg:=gallopOf (←get)
 let c ←forIn [0:a.size+b.size] (none,#[b0],0,1,mg) fun _ c=>tW a b c
 match c.1 with
 |some r=>return r
 |none=>unsupported "internal:list.sort.merge-bound"):=by
 refine cP rfl fun _=>cP rfl fun b0=> ?_
 by_cases h1:(1==b.size)=true
 · rw[if_pos h1,if_pos h1];rfl
 rw[if_neg h1,if_neg h1]
 by_cases h2:(0+1==a.size)=true
 · rw[if_pos h2,if_pos h2];rfl
 rw[if_neg h2,if_neg h2]
 refine cP rfl fun st=>cP ?_ fun c=>by cases c.1<;>rfl
 congr 1
 funext x c
 refine cP rfl fun d=> ?_
 cases h:d.1 with
 |some r=>rfl
 |none=>exact cP rfl fun _=>cP rfl fun e=>by cases e.1<;>rfl
end Tim
namespace Tim
open PySem PyProof.Rows
theorem y8{α:Type}(a:Array α)(i:Nat):(a.extract i a.size).toList=a.toList.drop i:=by
 rw[Array.toList_extract,List.extract_eq_take_drop]
 exact List.take_of_length_le (by simp)
theorem y9{α:Type}(a:Array α)(i k:Nat):(a.extract i (i+k)).toList=(a.toList.drop i).take k:=by
 rw[Array.toList_extract,List.extract_eq_take_drop,Nat.add_sub_cancel_left]
theorem jb{α:Type}{a:Array α}{i:Nat}(h:i<a.size):a.toList.drop i=a[i]::a.toList.drop (i+1):=by
 rw[List.drop_eq_getElem_cons (by simpa using h)]
 simp
section
variable{prog:Program}{w:World}{A:Around}{E:Value→Shared→Prop}{s:Shared}{κ:SortKind}{P:Keyed→Prop}{blt:Keyed→Keyed→Bool}
abbrev le(blt:Keyed→Keyed→Bool)(x y:Keyed):Prop:=blt y x=false
abbrev Srt(blt:Keyed→Keyed→Bool)(l:List Keyed):Prop:=l.Pairwise (le blt)
structure SmG(st st':SortSt):Prop where
 k:kindOf st'=kindOf st
 a:arrOf st'=arrOf st
 p:pendingOf st'=pendingOf st
 f:failedOf st'=failedOf st
theorem SmG.refl{st:SortSt}:SmG st st:=⟨rfl,rfl,rfl,rfl⟩
theorem SmG.gal{st st':SortSt}(h:SmG st st')(g:Nat):SmG st (ju st' g):=⟨h.k,h.a,h.p,h.f⟩
structure Two(P:Keyed→Prop)(blt:Keyed→Keyed→Bool)(a b:Array Keyed):Prop where
 pa:∀x∈a.toList,P x
 pb:∀x∈b.toList,P x
 sa:Srt blt a.toList
 sb:Srt blt b.toList
 na:0<a.size
 nb:0<b.size
 first:∀x y,a[0]? =some x→b[0]? =some y→blt y x=true
 last:∀x y,a[a.size-1]? =some x→y∈b.toList→blt y x=true
def iT(blt:Keyed→Keyed→Bool)(a b r:Array Keyed):Prop:=r.toList.Perm (a.toList++b.toList)∧Srt blt r.toList
abbrev StL(blt:Keyed→Keyed→Bool)(a b out:Array Keyed)(ia ib:Nat):Prop:=JJ (le blt) (a.toList++b.toList) out.toList (a.toList.drop ia) (b.toList.drop ib)
variable{a b out:Array Keyed}{ia ib:Nat}
theorem StL.runA(S:StL blt a b out ia ib)(k:Nat)(h:∀x∈(a.toList.drop ia).take k,∀y∈b.toList.drop ib,le blt x y):StL blt a b (out++a.extract ia (ia+k)) (ia+k) ib:=by
 have:=JJ.mvX S k h
 unfold StL
 rw[Array.toList_append,y9,←List.drop_drop]
 exact this
theorem StL.runB(S:StL blt a b out ia ib)(k:Nat)(h:∀x∈(b.toList.drop ib).take k,∀y∈a.toList.drop ia,le blt x y):StL blt a b (out++b.extract ib (ib+k)) ia (ib+k):=by
 have:=JJ.mvY S k h
 unfold StL
 rw[Array.toList_append,y9,←List.drop_drop]
 exact this
theorem StL.oneA(S:StL blt a b out ia ib)(h:ia<a.size)(q:∀y∈b.toList.drop ib,le blt a[ia] y):StL blt a b (out.push a[ia]) (ia+1) ib:=by
 have e:(a.toList.drop ia).take 1=[a[ia]]:=by rw[jb h];rfl
 have:=JJ.mvX S 1 (by rw[e];intro x hx;rw[List.mem_singleton.mp hx];exact q)
 unfold StL
 rw[Array.toList_push,←List.drop_drop]
 rw[e] at this
 exact this
theorem StL.oneB(S:StL blt a b out ia ib)(h:ib<b.size)(q:∀y∈a.toList.drop ia,le blt b[ib] y):StL blt a b (out.push b[ib]) ia (ib+1):=by
 have e:(b.toList.drop ib).take 1=[b[ib]]:=by rw[jb h];rfl
 have:=JJ.mvY S 1 (by rw[e];intro x hx;rw[List.mem_singleton.mp hx];exact q)
 unfold StL
 rw[Array.toList_push,←List.drop_drop]
 rw[e] at this
 exact this
theorem StL.done(S:StL blt a b out ia ib)(h:ib=b.size∨ia=a.size):iT blt a b (iR a b out ia ib):=by
 have:=JJ.fin S (fun x hx y hy=>by
  rcases h with h|h
  · rw[h,List.drop_of_length_le (by simp)] at hy
    cases hy
  · rw[h,List.drop_of_length_le (by simp)] at hx
    cases hx)
 unfold iT iR
 rw[Array.toList_append,Array.toList_append,y8,y8,List.append_assoc]
 exact this
theorem StL.lastA(T:Two P blt a b)(S:StL blt a b out ia ib)(an:Asks prog w A E s κ P blt)(h:ia+1=a.size):iT blt a b (md a b out ia ib):=by
 have hi:ia<a.size:=by omega
 have ea:a.toList.drop ia=[a[ia]]:=by
  rw[jb hi,List.drop_of_length_le (by simp;omega)]
 have:=JJ.fin (JJ.swap S) (fun y hy x hx=>by
  rw[ea] at hx
  rw[List.mem_singleton.mp hx]
  exact an.asym _ _ (T.last _ _ (by rw[show a.size-1=ia by omega];exact getElem?_pos a ia hi) (List.mem_of_mem_drop hy)))
 unfold iT md
 rw[Array.toList_append,Array.toList_append,y8,y8,List.append_assoc]
 exact this
def Live(blt:Keyed→Keyed→Bool)(a b out:Array Keyed)(ia ib:Nat):Prop:=StL blt a b out ia ib∧ia+1<a.size∧ib<b.size
def Ak(blt:Keyed→Keyed→Bool)(a b:Array Keyed)(n:Nat)(o:Option (Array Keyed))(out:Array Keyed)(ia ib:Nat):Prop:=(∃r,o=some r∧iT blt a b r)∨(o=none∧Live blt a b out ia ib∧n<out.size)
def u4(blt:Keyed→Keyed→Bool)(a b:Array Keyed)(n:Nat):ForInStep LoS→Prop
 | .done c=>Ak blt a b n c.1 c.2.1 c.2.2.1 c.2.2.2.1
 | .yield c=>c.1=none∧Live blt a b c.2.1 c.2.2.1 c.2.2.2.1∧n<c.2.1.size
theorem jv(an:Asks prog w A E s κ P blt){l:Array Keyed}(sl:Srt blt l.toList){x:Keyed}{i:Nat}(h:∀y,l[i]? =some y→le blt x y):∀y∈l.toList.drop i,le blt x y:=by
 intro y hy
 by_cases hi:i<l.size
 · rw[jb hi] at hy
   have e:=h _ (getElem?_pos l i hi)
   rcases List.mem_cons.mp hy with rfl|q
   · exact e
   · have:(l.toList.drop i).Pairwise (le blt):=sl.sublist (List.drop_sublist i _)
     rw[jb hi] at this
     exact an.tr _ _ _ e ((List.pairwise_cons.mp this).1 y q)
 · rw[List.drop_of_length_le (by simp;omega)] at hy
   cases hy
theorem e7{α:Type}{l:Array α}{i k:Nat}{x:α}(h:x∈(l.toList.drop i).take k):∃j,j<k∧l[i+j]? =some x:=by
 obtain⟨j,hj,e⟩:=List.getElem_of_mem h
 simp only[List.length_take,List.length_drop,Array.length_toList] at hj
 refine⟨j,by omega, ?_⟩
 rw[List.getElem_take,List.getElem_drop] at e
 rw[←e]
 simp
theorem pS{l:Array Keyed}(an:Asks prog w A E s κ P blt)(sl:Srt blt l.toList){i j:Nat}{x y:Keyed}(hij:i≤j)(hx:l[i]? =some x)(hy:l[j]? =some y):le blt x y:=by
 obtain⟨hi,ex⟩:=Array.getElem?_eq_some_iff.mp hx
 obtain⟨hj,ey⟩:=Array.getElem?_eq_some_iff.mp hy
 by_cases e:i=j
 · subst e
   rw[ex] at ey
   subst ey
   show blt x x=false
   cases q:blt x x with
   |false=>rfl
   |true=>rw[←q];exact an.asym _ _ q
 · have:=List.pairwise_iff_getElem.mp sl i j (by simpa using hi) (by simpa using hj) (by omega)
   rw[Array.getElem_toList,Array.getElem_toList,ex,ey] at this
   exact this
theorem pT{l:Array Keyed}(an:Asks prog w A E s κ P blt)(sl:Srt blt l.toList){base n:Nat}:∀i j x y,i≤j→j<n→l[base+i]? =some x→l[base+j]? =some y→le blt x y:=fun i j _ _ hij _ hx hy=>pS an sl (Nat.add_le_add_left hij base) hx hy
theorem oN(an:Asks prog w A E s κ P blt){l:Array Keyed}{key:Keyed}{left:Bool}{base n hint:Nat}{st:SortSt}{Q:Option Nat→SortSt→Prop}(hk:kindOf st=κ)(hkey:P key)(pl:∀x∈l.toList,P x)(sl:∀i j x y,i≤j→j<n→l[base+i]? =some x→l[base+j]? =some y→le blt x y)(hn:hint<n)(hb:base+n≤l.size)
 (h:∀k,k≤n→(∀i x,i<k→l[base+i]? =some x→(if left then blt x key=true else le blt x key))→(∀i x,k≤i→i<n→l[base+i]? =some x→(if left then le blt key x else blt key x=true))→Q (some k) st):wpS (model prog w) A E s (g4 left key l base n hint) Q st:=by
 have ge:∀i,i<n→l[base+i]? =some (l.getD (base+i) key):=fun i hi=>by
  have:base+i<l.size:=by omega
  simp[Array.getD,this]
 refine tV an hk hkey hn (fun i=>if left then blt (l.getD (base+i) key) key else !blt key (l.getD (base+i) key)) (fun i hi=>⟨_,ge i hi,pl _ (by have:=ge i hi;exact Array.mem_toList_iff.mpr (Array.mem_of_getElem? this)),rfl⟩) (fun i j hij hj e=> ?_) (fun k hk h1 h2=>h k hk (fun i x hi hx=> ?_) (fun i x hi hin hx=> ?_))
 · have s1:=sl i j _ _ hij hj (ge i (by omega)) (ge j hj)
   cases left with
   |true=>
    simp only[if_true] at e ⊢
    cases q:blt (l.getD (base+i) key) key with
    |true=>rfl
    |false=>
     rw[an.tr key (l.getD (base+i) key) (l.getD (base+j) key) q s1] at e
     cases e
   |false=>
    simp only[Bool.false_eq_true,if_false,Bool.not_eq_true'] at e ⊢
    exact an.tr _ _ _ s1 e
 · have e:=h1 i hi
   have g:=ge i (by omega)
   rw[hx] at g
   rw[←Option.some.inj g] at e
   cases left with
   |true=>simpa using e
   |false=>simpa using e
 · have e:=h2 i hi hin
   have g:=ge i hin
   rw[hx] at g
   rw[←Option.some.inj g] at e
   cases left with
   |true=>simpa using e
   |false=>simpa using e
theorem rD(an:Asks prog w A E s κ P blt)(T:Two P blt a b){mg ac bc n:Nat}{st:SortSt}{Q:ForInStep LoS→SortSt→Prop}(S:StL blt a b out ia ib)(ha:ia+1<a.size)(hb:ib<b.size)(hn:n≤out.size)(hle:∀x y,a[ia]? =some x→b[ib]? =some y→le blt x y)
 (h:∀r,u4 blt a b n r→Q r st):wpS (model prog w) A E s (uY a b mg ac bc out ia ib) Q st:=by
 unfold uY
 have hi:ia<a.size:=by omega
 have ea:=getElem?_pos a ia hi
 refine wpS_bind (bj ea ?_)
 have S1:=S.oneA hi (jv an T.sb fun y hy=>hle _ y ea hy)
 by_cases h1:(ia+1+1==a.size)=true
 · rw[if_pos h1]
   exact wpS_pure (h _ (.inl ⟨_,rfl,S1.lastA T an (by simpa using h1)⟩))
 rw[if_neg h1]
 have h1':¬ia+1+1=a.size:=by simpa using h1
 have L:Live blt a b (out.push a[ia]) (ia+1) ib∧n<(out.push a[ia]).size:=⟨⟨S1,by omega,hb⟩,by rw[Array.size_push];omega⟩
 by_cases h2:(decide (ac<7)&&decide (bc<7))=true
 · rw[if_pos h2]
   exact wpS_pure (h _ (.inr ⟨rfl,L⟩))
 · rw[if_neg h2]
   exact wpS_pure (h _ ⟨rfl,L⟩)
theorem rE(an:Asks prog w A E s κ P blt)(T:Two P blt a b){mg ac bc n:Nat}{st:SortSt}{Q:ForInStep LoS→SortSt→Prop}(hk:kindOf st=κ)(S:StL blt a b out ia ib)(ha:ia+1<a.size)(hb:ib<b.size)(hn:n≤out.size)(hlt:∀x y,a[ia]? =some x→b[ib]? =some y→blt y x=true)
 (h:∀r,u4 blt a b n r→Q r st):wpS (model prog w) A E s (uZ a b mg ac bc out ia ib) Q st:=by
 unfold uZ
 have hi:ia<a.size:=by omega
 have ea:=getElem?_pos a ia hi
 have eb:=getElem?_pos b ib hb
 refine wpS_bind (bj eb ?_)
 have S1:=S.oneB hb (jv an T.sa fun x hx=>an.asym _ _ (hlt x _ hx eb))
 have n1:n≤(out.push b[ib]).size:=by rw[Array.size_push];omega
 by_cases h1:(ib+1==b.size)=true
 · rw[if_pos h1]
   exact wpS_pure (h _ (.inl ⟨_,rfl,S1.done (.inl (by simpa using h1))⟩))
 rw[if_neg h1]
 have h1':¬ib+1=b.size:=by simpa using h1
 refine wpS_bind (bj ea (wpS_bind (oN an hk (T.pa _ (by simp)) T.pb (pT an T.sb) (by omega) (by omega) fun k hkn k1 k2=> ?_)))
 dsimp only
 have S2:=S1.runB k (fun x hx=>by
  obtain⟨j,hj,ex⟩:=e7 hx
  exact jv an T.sa fun y hy=>by
   rw[ea] at hy
   cases hy
   exact an.asym _ _ (k1 j x hj ex))
 have k3:∀x y,a[ia]? =some x→b[ib+1+k]? =some y→le blt x y:=fun x y hx hy=>by
  rw[ea] at hx
  cases hx
  exact k2 k y (Nat.le_refl _) (by have:=(Array.getElem?_eq_some_iff.mp hy).1;omega) hy
 by_cases h2:k>0
 · rw[if_pos h2]
   by_cases h3:(ib+1+k==b.size)=true
   · rw[if_pos h3]
     exact wpS_pure (h _ (.inl ⟨_,rfl,S2.done (.inl (by simpa using h3))⟩))
   · rw[if_neg h3]
     have h3':¬ib+1+k=b.size:=by simpa using h3
     exact rD an T S2 ha (by omega) (by rw[Array.size_append];omega) k3 h
 · rw[if_neg h2]
   have:k=0:=by omega
   subst this
   exact rD an T S1 ha (by omega) n1 k3 h
theorem oO(an:Asks prog w A E s κ P blt)(T:Two P blt a b){mg ac bc:Nat}{st0 st:SortSt}{Q:ForInStep LoS→SortSt→Prop}(hk0:kindOf st0=κ)(hm:SmG st0 st)(L:Live blt a b out ia ib)
 (h:∀r st',SmG st0 st'→u4 blt a b out.size r→Q r st'):wpS (model prog w) A E s (pR a b mg ac bc out ia ib) Q st:=by
 obtain⟨S,ha,hb⟩:=L
 unfold pR
 have eb:=getElem?_pos b ib hb
 refine wpS_bind (wpS_modify ?_)
 have hm:=hm.gal mg
 have hk:kindOf (ju st mg)=κ:=by rw[hm.k,hk0]
 have h:=fun r=>h r (ju st mg) hm
 refine wpS_bind (bj eb (wpS_bind (oN an hk (T.pb _ (by simp)) T.pa (pT an T.sa) (by omega) (by omega) fun k hkn k1 k2=> ?_)))
 dsimp only
 have S2:=S.runA k (fun x hx=>by
  obtain⟨j,hj,ex⟩:=e7 hx
  exact jv an T.sb fun y hy=>by
   rw[eb] at hy
   cases hy
   exact k1 j x hj ex)
 have k3:∀x y,a[ia+k]? =some x→b[ib]? =some y→blt y x=true:=fun x y hx hy=>by
  rw[eb] at hy
  cases hy
  exact k2 k x (Nat.le_refl _) (by have:=(Array.getElem?_eq_some_iff.mp hx).1;omega) hx
 by_cases h2:k>0
 · rw[if_pos h2]
   by_cases h3:(ia+k+1==a.size)=true
   · rw[if_pos h3]
     exact wpS_pure (h _ (.inl ⟨_,rfl,S2.lastA T an (by simpa using h3)⟩))
   rw[if_neg h3]
   have h3':¬ia+k+1=a.size:=by simpa using h3
   by_cases h4:(ia+k==a.size)=true
   · rw[if_pos h4]
     exact wpS_pure (h _ (.inl ⟨_,rfl,S2.done (.inr (by simpa using h4))⟩))
   rw[if_neg h4]
   have h4':¬ia+k=a.size:=by simpa using h4
   exact rE an T hk S2 (by omega) hb (by rw[Array.size_append];omega) k3 h
 · rw[if_neg h2]
   have:k=0:=by omega
   subst this
   exact rE an T hk S ha hb (Nat.le_refl _) k3 h
theorem xo(an:Asks prog w A E s κ P blt)(T:Two P blt a b){c:LoS}{st0 st:SortSt}{Q:ForInStep LoS→SortSt→Prop}(hk0:kindOf st0=κ)(hm:SmG st0 st)(L:Live blt a b c.2.1 c.2.2.1 c.2.2.2.1)
 (h:∀r st',SmG st0 st'→u4 blt a b c.2.1.size r→Q r st'):wpS (model prog w) A E s (xm a b c) Q st:=by
 unfold xm
 split
 · exact oO an T hk0 hm L h
 · exact oO an T hk0 hm L h
theorem xp(an:Asks prog w A E s κ P blt)(T:Two P blt a b){mg:Nat}{c:Option (Array Keyed)×Array Keyed×Nat×Nat×Nat×Nat}{st:SortSt}{Q:ForInStep (Option (Array Keyed)×Array Keyed×Nat×Nat×Nat×Nat)→SortSt→Prop}(hk:kindOf st=κ)(L:Live blt a b c.2.1 c.2.2.1 c.2.2.2.1)
 (h1:∀d,Ak blt a b c.2.1.size d.1 d.2.1 d.2.2.1 d.2.2.2.1→Q (.done d) st)(h2:∀d,d.1=none→Live blt a b d.2.1 d.2.2.1 d.2.2.2.1→c.2.1.size<d.2.1.size→Q (.yield d) st):wpS (model prog w) A E s (xn a b mg c) Q st:=by
 obtain⟨o,out,ia,ib,ac,bc⟩:=c
 obtain⟨S,ha,hb⟩:=L
 dsimp only at S ha hb h1 h2
 unfold xn
 dsimp only
 have hi:ia<a.size:=by omega
 have ea:=getElem?_pos a ia hi
 have eb:=getElem?_pos b ib hb
 refine wpS_bind (bj eb (wpS_bind (bj ea (wpS_bind (an.ask _ _ st _ (T.pb _ (by simp)) (T.pa _ (by simp)) hk ?_)))))
 dsimp only
 cases q:blt b[ib] a[ia] with
 |true=>
  rw[if_pos rfl]
  refine wpS_bind (bj eb ?_)
  have S1:=S.oneB hb (jv an T.sa fun x hx=>by rw[ea] at hx;cases hx;exact an.asym _ _ q)
  have n1:out.size<(out.push b[ib]).size:=by rw[Array.size_push];omega
  by_cases h3:(ib+1==b.size)=true
  · rw[if_pos h3]
    exact wpS_pure (h1 _ (.inl ⟨_,rfl,S1.done (.inl (by simpa using h3))⟩))
  rw[if_neg h3]
  have h3':¬ib+1=b.size:=by simpa using h3
  have h5:ib+1<b.size:=by omega
  split
  · exact wpS_pure (h1 _ (.inr ⟨rfl,⟨S1,ha,h5⟩,n1⟩))
  · exact wpS_pure (h2 _ rfl ⟨S1,ha,h5⟩ n1)
 |false=>
  rw[if_neg Bool.false_ne_true]
  refine wpS_bind (bj ea ?_)
  have S1:=S.oneA hi (jv an T.sb fun x hx=>by rw[eb] at hx;cases hx;exact q)
  have n1:out.size<(out.push a[ia]).size:=by rw[Array.size_push];omega
  by_cases h3:(ia+1+1==a.size)=true
  · rw[if_pos h3]
    exact wpS_pure (h1 _ (.inl ⟨_,rfl,S1.lastA T an (by simpa using h3)⟩))
  rw[if_neg h3]
  have h3':¬ia+1+1=a.size:=by simpa using h3
  have h5:ia+1+1<a.size:=by omega
  split
  · exact wpS_pure (h1 _ (.inr ⟨rfl,⟨S1,h5,hb⟩,n1⟩))
  · exact wpS_pure (h2 _ rfl ⟨S1,h5,hb⟩ n1)
theorem Live.size(L:Live blt a b out ia ib):out.size<a.size+b.size:=by
 have:=L.1.p.length_eq
 simp only[List.length_append,List.length_drop,Array.length_toList] at this
 have:=L.2
 omega
theorem v5(an:Asks prog w A E s κ P blt)(T:Two P blt a b){c:Option (Array Keyed)×Array Keyed×Nat×Nat×Nat}{st0 st:SortSt}{Q:ForInStep (Option (Array Keyed)×Array Keyed×Nat×Nat×Nat)→SortSt→Prop}(hk0:kindOf st0=κ)(hm:SmG st0 st)(L:Live blt a b c.2.1 c.2.2.1 c.2.2.2.1)
 (h1:∀d r st',SmG st0 st'→d.1=some r→iT blt a b r→Q (.done d) st')(h2:∀d st',SmG st0 st'→d.1=none→Live blt a b d.2.1 d.2.2.1 d.2.2.2.1→c.2.1.size<d.2.1.size→Q (.yield d) st'):wpS (model prog w) A E s (tW a b c) Q st:=by
 unfold tW
 have hk:kindOf st=κ:=by rw[hm.k,hk0]
 refine wpS_bind (wpS_mono (wpS_forRange (I:=fun x d st'=>st'=st∧d.1=none∧Live blt a b d.2.1 d.2.2.1 d.2.2.2.1∧c.2.1.size≤d.2.1.size)
  (Q:=fun d st'=>st'=st∧((∃r,d.1=some r∧iT blt a b r)∨(d.1=none∧Live blt a b d.2.1 d.2.2.1 d.2.2.2.1∧c.2.1.size≤d.2.1.size))) ?_ ?_ ⟨rfl,rfl,L,Nat.le_refl _⟩) ?_)
 · rintro x d st' _ _ ⟨rfl,_,Ld,nd⟩
   refine xp an T hk Ld (fun e he=>⟨rfl, ?_⟩) (fun e e1 e2 e3=>⟨rfl,e1,e2,by omega⟩)
   rcases he with he|⟨e1,e2,e3⟩
   · exact .inl he
   · exact .inr ⟨e1,e2,by omega⟩
 · rintro d st' ⟨rfl,e1,e2,e3⟩
   exact⟨rfl, .inr ⟨e1,e2,e3⟩⟩
 rintro d st' ⟨rfl,⟨r,er,hr⟩|⟨ed,Ld,nd⟩⟩
 · rw[er]
   exact wpS_pure (h1 _ r _ hm rfl hr)
 rw[ed]
 refine wpS_bind (wpS_lift (wpAny_rule ⟨rfl, ?_⟩))
 have hT:0<a.size+b.size:=by have:=T.na;omega
 refine wpS_bind (wpS_mono (wpS_forRange (I:=fun x e st'=>SmG st0 st'∧e.1=none∧Live blt a b e.2.1 e.2.2.1 e.2.2.2.1∧c.2.1.size+x≤e.2.1.size)
  (Q:=fun e st'=>SmG st0 st'∧((∃r,e.1=some r∧iT blt a b r)∨(e.1=none∧Live blt a b e.2.1 e.2.2.1 e.2.2.2.1∧c.2.1.size<e.2.1.size))) ?_ ?_ ⟨hm,rfl,Ld,nd⟩) ?_)
 · rintro x e st' _ _ ⟨hm',_,Le,ne⟩
   refine xo an T hk0 hm' Le (fun r st2 hm2 hr=> ?_)
   cases r with
   |done e2=>
    refine⟨hm2, ?_⟩
    rcases hr with hr|⟨e1,e2,e3⟩
    · exact .inl hr
    · exact .inr ⟨e1,e2,by omega⟩
   |yield e2=>exact⟨hm2,hr.1,hr.2.1,by have:=hr.2.2;omega⟩
 · rintro e st' ⟨hm',e1,e2,e3⟩
   refine⟨hm', .inr ⟨e1,e2, ?_⟩⟩
   have:max 0 (a.size+b.size)=a.size+b.size:=by omega
   omega
 rintro e st' ⟨hm',⟨r,er,hr⟩|⟨ed,Le,ne⟩⟩
 · rw[er]
   exact wpS_pure (h1 _ r _ hm' rfl hr)
 rw[ed]
 exact wpS_bind (wpS_modify (wpS_pure (h2 _ _ (hm'.gal _) rfl Le ne)))
theorem nq(an:Asks prog w A E s κ P blt)(T:Two P blt a b){st:SortSt}{Q:Array Keyed→SortSt→Prop}(hk:kindOf st=κ)(h:∀r st',SmG st st'→iT blt a b r→Q r st'):wpS (model prog w) A E s (nk a b) Q st:=by
 rw[rC]
 have nb:=T.nb
 have na:=T.na
 have eb:=getElem?_pos b 0 nb
 have S0:StL blt a b #[] 0 0:=⟨List.Perm.refl _, .nil,T.sa,T.sb,fun _ h=>(by cases h),fun _ h=>(by cases h)⟩
 have S:=S0.oneB nb (jv an T.sa fun x hx=>an.asym _ _ (T.first x _ hx eb))
 refine wpS_bind (wpS_lift (wpAny_rule ⟨rfl,wpS_bind (bj eb ?_)⟩))
 by_cases h1:(1==b.size)=true
 · rw[if_pos h1]
   exact wpS_pure (h _ _ .refl (S.done (.inl (by simpa using h1))))
 rw[if_neg h1]
 have h1':¬1=b.size:=by simpa using h1
 by_cases h2:(0+1==a.size)=true
 · rw[if_pos h2]
   exact wpS_pure (h _ _ .refl (S.lastA T an (by simpa using h2)))
 rw[if_neg h2]
 have h2':¬1=a.size:=by simpa using h2
 have h3:0+1<a.size:=by omega
 have h4:1<b.size:=by omega
 refine wpS_bind (wpS_get (wpS_bind (wpS_mono (wpS_forRange (I:=fun x d st'=>SmG st st'∧d.1=none∧Live blt a b d.2.1 d.2.2.1 d.2.2.2.1∧x<d.2.1.size)
  (Q:=fun d st'=>SmG st st'∧∃r,d.1=some r∧iT blt a b r) ?_ ?_ ⟨.refl,rfl,⟨S,h3,h4⟩,by simp⟩) ?_)))
 · rintro x d st' _ _ ⟨hm,_,L,n⟩
   exact v5 an T hk hm L (fun e r st2 hm2 e1 e2=>⟨hm2,r,e1,e2⟩) (fun e st2 hm2 e1 e2 e3=>⟨hm2,e1,e2,by omega⟩)
 · rintro d st' ⟨hm,_,L,n⟩
   have:=L.size
   omega
 · rintro d st' ⟨hm,r,er,hr⟩
   rw[er]
   exact wpS_pure (h r _ hm hr)
end
end Tim
namespace Tim
open PySem PyProof.Rows
def nr:Array Keyed→Array Keyed→SM (Array Keyed):=sortPriv%PySem.Builtin.mergeHi
abbrev HiS:=Option (Array Keyed)×Nat×Nat×Array Keyed×Nat×Nat×Nat
abbrev HiT:=Option (Array Keyed)×Nat×Nat×Array Keyed×Nat×Nat
def iU(a b out:Array Keyed)(na nb:Nat):=a.extract 0 na++b.extract 0 nb++out.reverse
def kf(a b out:Array Keyed)(na nb:Nat):=b.extract 0 nb++a.extract 0 na++out.reverse
def u5(a b:Array Keyed)(mg ac bc na nb:Nat)(out0:Array Keyed):SM (ForInStep HiS):=do
 let out:=out0.push (←elem' a (na-1))
 if na-1==0 then return .done (some (iU a b out (na-1) nb),na-1,nb,out,mg,ac,bc)
 if ac<7&&bc<7 then return .done (none,na-1,nb,out,mg,ac,bc)
 return .yield (none,na-1,nb,out,mg,ac,bc)
def u6(a b:Array Keyed)(mg ac bc na nb0:Nat)(out0:Array Keyed):SM (ForInStep HiS):=do
 let out:=out0.push (←elem' b (nb0-1))
 let nb:=nb0-1
 if nb==1 then return .done (some (kf a b out na nb),na,nb,out,mg,ac,bc)
 let some at_ ←g4 true (←elem' a (na-1)) b 0 nb (nb-1)|return .done (some (iU a b out na nb),na,nb,out,mg,ac,bc)
 if nb-at_>0 then
  if at_==1 then return .done (some (kf a b (out++(b.extract at_ nb).reverse) na at_),na,at_,out++(b.extract at_ nb).reverse,mg,ac,nb-at_)
  if at_==0 then return .done (some (iU a b (out++(b.extract at_ nb).reverse) na at_),na,at_,out++(b.extract at_ nb).reverse,mg,ac,nb-at_)
  u5 a b mg ac (nb-at_) na at_ (out++(b.extract at_ nb).reverse)
 else u5 a b mg ac (nb-at_) na nb out
def pU(a b:Array Keyed)(mg ac bc na nb:Nat)(out:Array Keyed):SM (ForInStep HiS):=do
 modify fun s=>ju s mg
 let some at_ ←g4 false (←elem' b (nb-1)) a 0 na (na-1)|return .done (some (iU a b out na nb),na,nb,out,mg,ac,bc)
 if na-at_>0 then
  if at_==0 then return .done (some (iU a b (out++(a.extract at_ na).reverse) at_ nb),at_,nb,out++(a.extract at_ na).reverse,mg,na-at_,bc)
  u6 a b mg (na-at_) bc at_ nb (out++(a.extract at_ na).reverse)
 else u6 a b mg (na-at_) bc na nb out
def xq(a b:Array Keyed)(c:HiS):SM (ForInStep HiS):=
 if c.2.2.2.2.1>1 then pU a b (c.2.2.2.2.1-1) c.2.2.2.2.2.1 c.2.2.2.2.2.2 c.2.1 c.2.2.1 c.2.2.2.1 else pU a b c.2.2.2.2.1 c.2.2.2.2.2.1 c.2.2.2.2.2.2 c.2.1 c.2.2.1 c.2.2.2.1
def xr(a b:Array Keyed)(mg:Nat)(c:HiT):SM (ForInStep HiT):=do
 let na:=c.2.1
 let nb:=c.2.2.1
 let out:=c.2.2.2.1
 let some aWins ←lt' (←elem' b (nb-1)) (←elem' a (na-1))|return .done (some (iU a b out na nb),na,nb,out,c.2.2.2.2.1,c.2.2.2.2.2)
 if aWins then
  let out:=out.push (←elem' a (na-1))
  if na-1==0 then return .done (some (iU a b out (na-1) nb),na-1,nb,out,c.2.2.2.2.1+1,0)
  if c.2.2.2.2.1+1≥mg then return .done (none,na-1,nb,out,c.2.2.2.2.1+1,0)
  return .yield (none,na-1,nb,out,c.2.2.2.2.1+1,0)
 else
  let out:=out.push (←elem' b (nb-1))
  if nb-1==1 then return .done (some (kf a b out na (nb-1)),na,nb-1,out,0,c.2.2.2.2.2+1)
  if c.2.2.2.2.2+1≥mg then return .done (none,na,nb-1,out,0,c.2.2.2.2.2+1)
  return .yield (none,na,nb-1,out,0,c.2.2.2.2.2+1)
abbrev HiU:=Option (Array Keyed)×Nat×Nat×Array Keyed×Nat
def tX(a b:Array Keyed)(c:HiU):SM (ForInStep HiU):=do
 let d ←forIn [0:a.size+b.size] (none,c.2.1,c.2.2.1,c.2.2.2.1,0,0) fun _ d=>xr a b c.2.2.2.2 d
 match d.1 with
 |some r=>return .done (some r,d.2.1,d.2.2.1,d.2.2.2.1,c.2.2.2.2)
 |none=>
  rule "list.sort.gallop"
  let e ←forIn [0:a.size+b.size] (none,d.2.1,d.2.2.1,d.2.2.2.1,c.2.2.2.2+1,d.2.2.2.2.1,d.2.2.2.2.2) fun _ e=>xq a b e
  match e.1 with
  |some r=>return .done (some r,e.2.1,e.2.2.1,e.2.2.2.1,e.2.2.2.2.1)
  |none=>
   modify fun s=>ju s (e.2.2.2.2.1+1)
   return .yield (none,e.2.1,e.2.2.1,e.2.2.2.1,e.2.2.2.2.1+1)
theorem rF(a b:Array Keyed):nr a b=(do
 rule "list.sort.merge-hi"
 let a0 ←elem' a (a.size-1)
 if a.size-1==0 then return iU a b #[a0] (a.size-1) b.size
 if b.size==1 then return kf a b #[a0] (a.size-1) b.size
 let mg:=gallopOf (←get)
 let c ←forIn [0:a.size+b.size] (none,a.size-1,b.size,#[a0],mg) fun _ c=>tX a b c
 match c.1 with
 |some r=>return r
 |none=>unsupported "internal:list.sort.merge-bound"):=by
 refine cP rfl fun _=>cP rfl fun b0=> ?_
 by_cases h1:(a.size-1==0)=true
 · rw[if_pos h1,if_pos h1];rfl
 rw[if_neg h1,if_neg h1]
 by_cases h2:(b.size==1)=true
 · rw[if_pos h2,if_pos h2];rfl
 rw[if_neg h2,if_neg h2]
 refine cP rfl fun st=>cP ?_ fun c=>by cases c.1<;>rfl
 congr 1
 funext x c
 refine cP rfl fun d=> ?_
 cases h:d.1 with
 |some r=>rfl
 |none=>exact cP rfl fun _=>cP rfl fun e=>by cases e.1<;>rfl
end Tim
namespace Tim
open PySem PyProof.Rows
section
variable{prog:Program}{w:World}{A:Around}{E:Value→Shared→Prop}{s:Shared}{κ:SortKind}{P:Keyed→Prop}{blt:Keyed→Keyed→Bool}
variable{a b out:Array Keyed}{na nb:Nat}
abbrev ge(blt:Keyed→Keyed→Bool)(x y:Keyed):Prop:=blt x y=false
abbrev StH(blt:Keyed→Keyed→Bool)(a b out:Array Keyed)(na nb:Nat):Prop:=JJ (ge blt) (a.toList++b.toList) out.toList (a.toList.take na).reverse (b.toList.take nb).reverse
theorem mQ{α:Type}(a:Array α){at_ n:Nat}(h:at_≤n)(hn:n≤a.size):((a.toList.take n).reverse).take (n-at_)=((a.extract at_ n).reverse).toList:=by
 rw[List.take_reverse,Array.toList_reverse,Array.toList_extract,List.extract_eq_take_drop,List.length_take,Array.length_toList,Nat.min_eq_left hn,show n-(n-at_)=at_ by omega,List.drop_take]
theorem u7{α:Type}(a:Array α){at_ n:Nat}(h:at_≤n)(hn:n≤a.size):((a.toList.take n).reverse).drop (n-at_)=(a.toList.take at_).reverse:=by
 rw[List.drop_reverse,List.length_take,Array.length_toList,Nat.min_eq_left hn,show n-(n-at_)=at_ by omega,List.take_take,Nat.min_eq_left h]
theorem tY{α:Type}{a:Array α}{n:Nat}{x:α}(h:x∈(a.toList.take n).reverse):∃j,j<n∧a[j]? =some x:=by
 rw[List.mem_reverse] at h
 have h':x∈(a.toList.drop 0).take n:=h
 obtain⟨j,hj,e⟩:=e7 h'
 exact⟨j,hj,by simpa using e⟩
theorem xt{α:Type}{a:Array α}{at_ n:Nat}{x:α}(hn:n≤a.size)(h:x∈((a.extract at_ n).reverse).toList):∃j,at_≤j∧j<n∧a[j]? =some x:=by
 rw[Array.toList_reverse,List.mem_reverse,Array.toList_extract,List.extract_eq_take_drop] at h
 obtain⟨j,hj,e⟩:=e7 h
 exact⟨at_+j,by omega,by omega,e⟩
theorem StH.runA(S:StH blt a b out na nb){at_:Nat}(h1:at_≤na)(h2:na≤a.size)(h:∀j x y,at_≤j→j<na→a[j]? =some x→y∈(b.toList.take nb).reverse→le blt y x):StH blt a b (out++(a.extract at_ na).reverse) at_ nb:=by
 have:=JJ.mvX S (na-at_) (fun x hx y hy=>by
  rw[mQ a h1 h2] at hx
  obtain⟨j,hj,hj2,e⟩:=xt h2 hx
  exact h j x y hj hj2 e hy)
 unfold StH
 rw[mQ a h1 h2,u7 a h1 h2] at this
 rw[Array.toList_append]
 exact this
theorem StH.runB(S:StH blt a b out na nb){at_:Nat}(h1:at_≤nb)(h2:nb≤b.size)(h:∀j x y,at_≤j→j<nb→b[j]? =some x→y∈(a.toList.take na).reverse→le blt y x):StH blt a b (out++(b.extract at_ nb).reverse) na at_:=by
 have:=JJ.mvY S (nb-at_) (fun x hx y hy=>by
  rw[mQ b h1 h2] at hx
  obtain⟨j,hj,hj2,e⟩:=xt h2 hx
  exact h j x y hj hj2 e hy)
 unfold StH
 rw[mQ b h1 h2,u7 b h1 h2] at this
 rw[Array.toList_append]
 exact this
theorem rG{α:Type}(out a:Array α){n:Nat}(h0:0<n)(h:n≤a.size):out++(a.extract (n-1) n).reverse=out.push (a[n-1]'(by omega)):=by
 apply Array.ext'
 have e:a.extract (n-1) n= #[a[n-1]'(by omega)]:=by
  apply Array.ext'
  rw[Array.toList_extract,List.extract_eq_take_drop,jb (by omega),show n-(n-1)=1 by omega]
  rfl
 rw[e]
 simp
theorem StH.oneA(S:StH blt a b out na nb)(h1:0<na)(h2:na≤a.size)(h:∀y∈(b.toList.take nb).reverse,le blt y (a[na-1]'(by omega))):StH blt a b (out.push (a[na-1]'(by omega))) (na-1) nb:=by
 have:=S.runA (at_:=na-1) (by omega) h2 (fun j x y hj hj2 e hy=>by
  have:j=na-1:=by omega
  subst this
  rw[getElem?_pos a (na-1) (by omega)] at e
  cases e
  exact h y hy)
 rw[rG out a h1 h2] at this
 exact this
theorem StH.oneB(S:StH blt a b out na nb)(h1:0<nb)(h2:nb≤b.size)(h:∀y∈(a.toList.take na).reverse,le blt y (b[nb-1]'(by omega))):StH blt a b (out.push (b[nb-1]'(by omega))) na (nb-1):=by
 have:=S.runB (at_:=nb-1) (by omega) h2 (fun j x y hj hj2 e hy=>by
  have:j=nb-1:=by omega
  subst this
  rw[getElem?_pos b (nb-1) (by omega)] at e
  cases e
  exact h y hy)
 rw[rG out b h1 h2] at this
 exact this
theorem u8{l:List Keyed}(h:l.Perm (a.toList++b.toList)∧l.Pairwise (ge blt)){r:Array Keyed}(e:r.toList=l.reverse):iT blt a b r:=by
 unfold iT
 rw[e]
 exact⟨(List.reverse_perm l).trans h.1,List.pairwise_reverse.mpr h.2⟩
theorem StH.done(S:StH blt a b out na nb)(h:na=0∨nb=0):iT blt a b (iU a b out na nb):=by
 refine u8 (JJ.fin (JJ.swap S) (fun x hx y hy=> ?_)) ?_
 · rcases h with h|h
   · subst h
     cases hy
   · subst h
     cases hx
 · unfold iU
   simp[Array.toList_extract,List.extract_eq_take_drop]
theorem StH.first(T:Two P blt a b)(an:Asks prog w A E s κ P blt)(S:StH blt a b out na nb)(h:nb=1):iT blt a b (kf a b out na nb):=by
 refine u8 (JJ.fin S (fun x hx y hy=> ?_)) ?_
 · obtain⟨i,hi,ex⟩:=tY hx
   obtain⟨j,hj,ey⟩:=tY hy
   have:j=0:=by omega
   subst this
   have ea:=getElem?_pos a 0 T.na
   exact an.tr _ _ _ (an.asym _ _ (T.first _ _ ea ey)) (pS an T.sa (Nat.zero_le i) ea ex)
 · unfold kf
   simp[Array.toList_extract,List.extract_eq_take_drop]
def LiveH(blt:Keyed→Keyed→Bool)(a b out:Array Keyed)(na nb:Nat):Prop:=StH blt a b out na nb∧(0<na∧na≤a.size)∧1<nb∧nb≤b.size
def Al(blt:Keyed→Keyed→Bool)(a b:Array Keyed)(n:Nat)(o:Option (Array Keyed))(na nb:Nat)(out:Array Keyed):Prop:=(∃r,o=some r∧iT blt a b r)∨(o=none∧LiveH blt a b out na nb∧n<out.size)
def pV(blt:Keyed→Keyed→Bool)(a b:Array Keyed)(n:Nat):ForInStep HiS→Prop
 | .done c=>Al blt a b n c.1 c.2.1 c.2.2.1 c.2.2.2.1
 | .yield c=>c.1=none∧LiveH blt a b c.2.2.2.1 c.2.1 c.2.2.1∧n<c.2.2.2.1.size
theorem kg(an:Asks prog w A E s κ P blt){l:Array Keyed}(sl:Srt blt l.toList){x:Keyed}{n:Nat}(h:∀y,l[n-1]? =some y→le blt y x)(hn:n≤l.size):∀y∈(l.toList.take n).reverse,le blt y x:=by
 intro y hy
 obtain⟨j,hj,e⟩:=tY hy
 have g:=getElem?_pos l (n-1) (by omega)
 exact an.tr _ _ _ (pS an sl (by omega) e g) (h _ g)
theorem rH(an:Asks prog w A E s κ P blt)(T:Two P blt a b){mg ac bc n:Nat}{st:SortSt}{Q:ForInStep HiS→SortSt→Prop}(L:LiveH blt a b out na nb)(hn:n≤out.size)(hle:∀x y,a[na-1]? =some x→b[nb-1]? =some y→le blt y x)
 (h:∀r,pV blt a b n r→Q r st):wpS (model prog w) A E s (u5 a b mg ac bc na nb out) Q st:=by
 obtain⟨S,⟨ha,ha2⟩,hb,hb2⟩:=L
 unfold u5
 have hi:na-1<a.size:=by omega
 have ea:=getElem?_pos a (na-1) hi
 refine wpS_bind (bj ea ?_)
 have S1:=S.oneA ha ha2 (kg an T.sb (fun y hy=>hle _ y ea hy) hb2)
 by_cases h1:(na-1==0)=true
 · rw[if_pos h1]
   exact wpS_pure (h _ (.inl ⟨_,rfl,S1.done (.inl (by simpa using h1))⟩))
 rw[if_neg h1]
 have h1':¬na-1=0:=by simpa using h1
 have L:LiveH blt a b (out.push a[na-1]) (na-1) nb∧n<(out.push a[na-1]).size:=⟨⟨S1,⟨by omega,by omega⟩,hb,hb2⟩,by rw[Array.size_push];omega⟩
 by_cases h2:(decide (ac<7)&&decide (bc<7))=true
 · rw[if_pos h2]
   exact wpS_pure (h _ (.inr ⟨rfl,L⟩))
 · rw[if_neg h2]
   exact wpS_pure (h _ ⟨rfl,L⟩)
theorem rJ(an:Asks prog w A E s κ P blt)(T:Two P blt a b){mg ac bc n:Nat}{st:SortSt}{Q:ForInStep HiS→SortSt→Prop}(hk:kindOf st=κ)(L:LiveH blt a b out na nb)(hn:n≤out.size)(hle:∀x y,a[na-1]? =some x→b[nb-1]? =some y→le blt x y)
 (h:∀r,pV blt a b n r→Q r st):wpS (model prog w) A E s (u6 a b mg ac bc na nb out) Q st:=by
 obtain⟨S,⟨ha,ha2⟩,hb,hb2⟩:=L
 unfold u6
 have hi:na-1<a.size:=by omega
 have hj:nb-1<b.size:=by omega
 have ea:=getElem?_pos a (na-1) hi
 have eb:=getElem?_pos b (nb-1) hj
 refine wpS_bind (bj eb ?_)
 have S1:=S.oneB (by omega) hb2 (kg an T.sa (fun x hx=>hle x _ hx eb) ha2)
 have n1:n≤(out.push b[nb-1]).size:=by rw[Array.size_push];omega
 by_cases h1:(nb-1==1)=true
 · rw[if_pos h1]
   exact wpS_pure (h _ (.inl ⟨_,rfl,S1.first T an (by simpa using h1)⟩))
 rw[if_neg h1]
 have h1':¬nb-1=1:=by simpa using h1
 refine wpS_bind (bj ea (wpS_bind (oN an hk (T.pa _ (by simp)) T.pb (pT an T.sb) (by omega) (by omega) fun k hkn k1 k2=> ?_)))
 dsimp only
 simp only[Nat.zero_add,if_true] at k1 k2
 have S2:=S1.runB hkn (by omega) (fun j x y hj hj2 e=>kg an T.sa (fun z hz=>by
  rw[ea] at hz
  cases hz
  exact k2 j x hj hj2 e) ha2 y)
 have k3:∀m,0<m→m≤k→∀x y,a[na-1]? =some x→b[m-1]? =some y→le blt y x:=fun m h0 hm x y hx hy=>by
  rw[ea] at hx
  cases hx
  exact an.asym _ _ (k1 (m-1) y (by omega) hy)
 by_cases h2:nb-1-k>0
 · rw[if_pos h2]
   by_cases h3:(k==1)=true
   · rw[if_pos h3]
     exact wpS_pure (h _ (.inl ⟨_,rfl,S2.first T an (by simpa using h3)⟩))
   rw[if_neg h3]
   have h3':¬k=1:=by simpa using h3
   by_cases h4:(k==0)=true
   · rw[if_pos h4]
     exact wpS_pure (h _ (.inl ⟨_,rfl,S2.done (.inr (by simpa using h4))⟩))
   rw[if_neg h4]
   have h4':¬k=0:=by simpa using h4
   exact rH an T ⟨S2,⟨ha,ha2⟩,by omega,by omega⟩ (by rw[Array.size_append];omega) (k3 k (by omega) (Nat.le_refl _)) h
 · rw[if_neg h2]
   exact rH an T ⟨S1,⟨ha,ha2⟩,by omega,by omega⟩ n1 (k3 (nb-1) (by omega) (by omega)) h
theorem oP(an:Asks prog w A E s κ P blt)(T:Two P blt a b){mg ac bc:Nat}{st0 st:SortSt}{Q:ForInStep HiS→SortSt→Prop}(hk0:kindOf st0=κ)(hm:SmG st0 st)(L:LiveH blt a b out na nb)
 (h:∀r st',SmG st0 st'→pV blt a b out.size r→Q r st'):wpS (model prog w) A E s (pU a b mg ac bc na nb out) Q st:=by
 obtain⟨S,⟨ha,ha2⟩,hb,hb2⟩:=L
 unfold pU
 have hj:nb-1<b.size:=by omega
 have eb:=getElem?_pos b (nb-1) hj
 refine wpS_bind (wpS_modify ?_)
 have hm:=hm.gal mg
 have hk:kindOf (ju st mg)=κ:=by rw[hm.k,hk0]
 have h:=fun r=>h r (ju st mg) hm
 refine wpS_bind (bj eb (wpS_bind (oN an hk (T.pb _ (by simp)) T.pa (pT an T.sa) (by omega) (by omega) fun k hkn k1 k2=> ?_)))
 dsimp only
 simp only[Nat.zero_add,Bool.false_eq_true,if_false] at k1 k2
 have S2:=S.runA hkn ha2 (fun j x y hj hj2 e=>kg an T.sb (fun z hz=>by
  rw[eb] at hz
  cases hz
  exact an.asym _ _ (k2 j x hj hj2 e)) hb2 y)
 have k3:∀m,0<m→m≤k→∀x y,a[m-1]? =some x→b[nb-1]? =some y→le blt x y:=fun m h0 hm x y hx hy=>by
  rw[eb] at hy
  cases hy
  exact k1 (m-1) x (by omega) hx
 by_cases h2:na-k>0
 · rw[if_pos h2]
   by_cases h4:(k==0)=true
   · rw[if_pos h4]
     exact wpS_pure (h _ (.inl ⟨_,rfl,S2.done (.inl (by simpa using h4))⟩))
   rw[if_neg h4]
   have h4':¬k=0:=by simpa using h4
   exact rJ an T hk ⟨S2,⟨by omega,by omega⟩,hb,hb2⟩ (by rw[Array.size_append];omega) (k3 k (by omega) (Nat.le_refl _)) h
 · rw[if_neg h2]
   exact rJ an T hk ⟨S,⟨ha,ha2⟩,hb,hb2⟩ (Nat.le_refl _) (k3 na (by omega) (by omega)) h
theorem xu(an:Asks prog w A E s κ P blt)(T:Two P blt a b){c:HiS}{st0 st:SortSt}{Q:ForInStep HiS→SortSt→Prop}(hk0:kindOf st0=κ)(hm:SmG st0 st)(L:LiveH blt a b c.2.2.2.1 c.2.1 c.2.2.1)
 (h:∀r st',SmG st0 st'→pV blt a b c.2.2.2.1.size r→Q r st'):wpS (model prog w) A E s (xq a b c) Q st:=by
 unfold xq
 split
 · exact oP an T hk0 hm L h
 · exact oP an T hk0 hm L h
theorem xw(an:Asks prog w A E s κ P blt)(T:Two P blt a b){mg:Nat}{c:HiT}{st:SortSt}{Q:ForInStep HiT→SortSt→Prop}(hk:kindOf st=κ)(L:LiveH blt a b c.2.2.2.1 c.2.1 c.2.2.1)
 (h1:∀d,Al blt a b c.2.2.2.1.size d.1 d.2.1 d.2.2.1 d.2.2.2.1→Q (.done d) st)(h2:∀d,d.1=none→LiveH blt a b d.2.2.2.1 d.2.1 d.2.2.1→c.2.2.2.1.size<d.2.2.2.1.size→Q (.yield d) st):wpS (model prog w) A E s (xr a b mg c) Q st:=by
 obtain⟨o,na,nb,out,ac,bc⟩:=c
 obtain⟨S,⟨ha,ha2⟩,hb,hb2⟩:=L
 dsimp only at S ha ha2 hb hb2 h1 h2
 unfold xr
 dsimp only
 have hi:na-1<a.size:=by omega
 have hj:nb-1<b.size:=by omega
 have ea:=getElem?_pos a (na-1) hi
 have eb:=getElem?_pos b (nb-1) hj
 refine wpS_bind (bj eb (wpS_bind (bj ea (wpS_bind (an.ask _ _ st _ (T.pb _ (by simp)) (T.pa _ (by simp)) hk ?_)))))
 dsimp only
 cases q:blt b[nb-1] a[na-1] with
 |true=>
  rw[if_pos rfl]
  refine wpS_bind (bj ea ?_)
  have S1:=S.oneA ha ha2 (kg an T.sb (fun y hy=>by rw[eb] at hy;cases hy;exact an.asym _ _ q) hb2)
  have n1:out.size<(out.push a[na-1]).size:=by rw[Array.size_push];omega
  by_cases h3:(na-1==0)=true
  · rw[if_pos h3]
    exact wpS_pure (h1 _ (.inl ⟨_,rfl,S1.done (.inl (by simpa using h3))⟩))
  rw[if_neg h3]
  have h3':¬na-1=0:=by simpa using h3
  have L:LiveH blt a b (out.push a[na-1]) (na-1) nb:=⟨S1,⟨by omega,by omega⟩,hb,hb2⟩
  split
  · exact wpS_pure (h1 _ (.inr ⟨rfl,L,n1⟩))
  · exact wpS_pure (h2 _ rfl L n1)
 |false=>
  rw[if_neg Bool.false_ne_true]
  refine wpS_bind (bj eb ?_)
  have S1:=S.oneB (by omega) hb2 (kg an T.sa (fun y hy=>by rw[ea] at hy;cases hy;exact q) ha2)
  have n1:out.size<(out.push b[nb-1]).size:=by rw[Array.size_push];omega
  by_cases h3:(nb-1==1)=true
  · rw[if_pos h3]
    exact wpS_pure (h1 _ (.inl ⟨_,rfl,S1.first T an (by simpa using h3)⟩))
  rw[if_neg h3]
  have h3':¬nb-1=1:=by simpa using h3
  have L:LiveH blt a b (out.push b[nb-1]) na (nb-1):=⟨S1,⟨ha,ha2⟩,by omega,by omega⟩
  split
  · exact wpS_pure (h1 _ (.inr ⟨rfl,L,n1⟩))
  · exact wpS_pure (h2 _ rfl L n1)
theorem LiveH.size(L:LiveH blt a b out na nb):out.size<a.size+b.size:=by
 have:=L.1.p.length_eq
 simp only[List.length_append,List.length_reverse,List.length_take,Array.length_toList] at this
 have:=L.2
 omega
theorem v6(an:Asks prog w A E s κ P blt)(T:Two P blt a b){c:HiU}{st0 st:SortSt}{Q:ForInStep HiU→SortSt→Prop}(hk0:kindOf st0=κ)(hm:SmG st0 st)(L:LiveH blt a b c.2.2.2.1 c.2.1 c.2.2.1)
 (h1:∀d r st',SmG st0 st'→d.1=some r→iT blt a b r→Q (.done d) st')(h2:∀d st',SmG st0 st'→d.1=none→LiveH blt a b d.2.2.2.1 d.2.1 d.2.2.1→c.2.2.2.1.size<d.2.2.2.1.size→Q (.yield d) st'):wpS (model prog w) A E s (tX a b c) Q st:=by
 unfold tX
 have hk:kindOf st=κ:=by rw[hm.k,hk0]
 refine wpS_bind (wpS_mono (wpS_forRange (I:=fun x d st'=>st'=st∧d.1=none∧LiveH blt a b d.2.2.2.1 d.2.1 d.2.2.1∧c.2.2.2.1.size≤d.2.2.2.1.size)
  (Q:=fun d st'=>st'=st∧((∃r,d.1=some r∧iT blt a b r)∨(d.1=none∧LiveH blt a b d.2.2.2.1 d.2.1 d.2.2.1∧c.2.2.2.1.size≤d.2.2.2.1.size))) ?_ ?_ ⟨rfl,rfl,L,Nat.le_refl _⟩) ?_)
 · rintro x d st' _ _ ⟨rfl,_,Ld,nd⟩
   refine xw an T hk Ld (fun e he=>⟨rfl, ?_⟩) (fun e e1 e2 e3=>⟨rfl,e1,e2,by omega⟩)
   rcases he with he|⟨e1,e2,e3⟩
   · exact .inl he
   · exact .inr ⟨e1,e2,by omega⟩
 · rintro d st' ⟨rfl,e1,e2,e3⟩
   exact⟨rfl, .inr ⟨e1,e2,e3⟩⟩
 rintro d st' ⟨rfl,⟨r,er,hr⟩|⟨ed,Ld,nd⟩⟩
 · rw[er]
   exact wpS_pure (h1 _ r _ hm rfl hr)
 rw[ed]
 refine wpS_bind (wpS_lift (wpAny_rule ⟨rfl, ?_⟩))
 have hT:0<a.size+b.size:=by have:=T.na;omega
 refine wpS_bind (wpS_mono (wpS_forRange (I:=fun x e st'=>SmG st0 st'∧e.1=none∧LiveH blt a b e.2.2.2.1 e.2.1 e.2.2.1∧c.2.2.2.1.size+x≤e.2.2.2.1.size)
  (Q:=fun e st'=>SmG st0 st'∧((∃r,e.1=some r∧iT blt a b r)∨(e.1=none∧LiveH blt a b e.2.2.2.1 e.2.1 e.2.2.1∧c.2.2.2.1.size<e.2.2.2.1.size))) ?_ ?_ ⟨hm,rfl,Ld,nd⟩) ?_)
 · rintro x e st' _ _ ⟨hm',_,Le,ne⟩
   refine xu an T hk0 hm' Le (fun r st2 hm2 hr=> ?_)
   cases r with
   |done e2=>
    refine⟨hm2, ?_⟩
    rcases hr with hr|⟨e1,e2,e3⟩
    · exact .inl hr
    · exact .inr ⟨e1,e2,by omega⟩
   |yield e2=>exact⟨hm2,hr.1,hr.2.1,by have:=hr.2.2;omega⟩
 · rintro e st' ⟨hm',e1,e2,e3⟩
   refine⟨hm', .inr ⟨e1,e2, ?_⟩⟩
   have:max 0 (a.size+b.size)=a.size+b.size:=by omega
   omega
 rintro e st' ⟨hm',⟨r,er,hr⟩|⟨ed,Le,ne⟩⟩
 · rw[er]
   exact wpS_pure (h1 _ r _ hm' rfl hr)
 rw[ed]
 exact wpS_bind (wpS_modify (wpS_pure (h2 _ _ (hm'.gal _) rfl Le ne)))
theorem nt(an:Asks prog w A E s κ P blt)(T:Two P blt a b){st:SortSt}{Q:Array Keyed→SortSt→Prop}(hk:kindOf st=κ)(h:∀r st',SmG st st'→iT blt a b r→Q r st'):wpS (model prog w) A E s (nr a b) Q st:=by
 rw[rF]
 have nb:=T.nb
 have na:=T.na
 have hi:a.size-1<a.size:=by omega
 have ea:=getElem?_pos a (a.size-1) hi
 have ta:a.toList.take a.size=a.toList:=List.take_of_length_le (by simp)
 have tb:b.toList.take b.size=b.toList:=List.take_of_length_le (by simp)
 have S0:StH blt a b #[] a.size b.size:=by
  unfold StH
  rw[ta,tb]
  exact⟨(List.reverse_perm _).append (List.reverse_perm _), .nil,List.pairwise_reverse.mpr T.sa,List.pairwise_reverse.mpr T.sb,fun _ h=>(by cases h),fun _ h=>(by cases h)⟩
 have S:=S0.oneA na (Nat.le_refl _) (fun y hy=>an.asym _ _ (T.last _ _ ea (by rw[tb,List.mem_reverse] at hy;exact hy)))
 refine wpS_bind (wpS_lift (wpAny_rule ⟨rfl,wpS_bind (bj ea ?_)⟩))
 by_cases h1:(a.size-1==0)=true
 · rw[if_pos h1]
   exact wpS_pure (h _ _ .refl (S.done (.inl (by simpa using h1))))
 rw[if_neg h1]
 have h1':¬a.size-1=0:=by simpa using h1
 by_cases h2:(b.size==1)=true
 · rw[if_pos h2]
   exact wpS_pure (h _ _ .refl (S.first T an (by simpa using h2)))
 rw[if_neg h2]
 have h2':¬b.size=1:=by simpa using h2
 have L:LiveH blt a b (#[].push a[a.size-1]) (a.size-1) b.size:=⟨S,⟨by omega,by omega⟩,by omega,Nat.le_refl _⟩
 refine wpS_bind (wpS_get (wpS_bind (wpS_mono (wpS_forRange (I:=fun x d st'=>SmG st st'∧d.1=none∧LiveH blt a b d.2.2.2.1 d.2.1 d.2.2.1∧x<d.2.2.2.1.size)
  (Q:=fun d st'=>SmG st st'∧∃r,d.1=some r∧iT blt a b r) ?_ ?_ ⟨.refl,rfl,L,by simp⟩) ?_)))
 · rintro x d st' _ _ ⟨hm,_,L,n⟩
   exact v6 an T hk hm L (fun e r st2 hm2 e1 e2=>⟨hm2,r,e1,e2⟩) (fun e st2 hm2 e1 e2 e3=>⟨hm2,e1,e2,by omega⟩)
 · rintro d st' ⟨hm,_,L,n⟩
   have:=L.size
   omega
 · rintro d st' ⟨hm,r,er,hr⟩
   rw[er]
   exact wpS_pure (h r _ hm hr)
end
end Tim
namespace Tim
open PySem PyProof.Rows
abbrev AsT:=Option (Option Nat)×Nat
abbrev DeT:=Option (Option Nat)×Nat×Nat
def za(lo a nrem:Nat):SM AsT:=forIn [a:nrem] ((none,a):AsT) fun _ c=>do
 let x ←ltAt' (lo+c.2) (lo+c.2-1)
 match x with
 |some smaller=>if smaller=true then pure (.done (none,c.2)) else pure (.yield (none,c.2+1))
 |_=>pure (.done (some none,c.2))
def zb(lo n nrem:Nat):SM (Option Nat):=do
 reverseSlice' lo (lo+n)
 let c ←za lo n nrem
 match c.1 with
 |some r=>pure r
 |none=>pure (some c.2)
def BM(lo n nrem:Nat):SM DeT:=forIn [n:nrem] ((none,n,0):DeT) fun _ c=>do
 let x ←ltAt' (lo+c.2.1) (lo+c.2.1-1)
 match x with
 |some smaller=>
  if smaller=true then
   if c.2.2>0 then do
    reverseSlice' (lo+c.2.1-(c.2.2+1)) (lo+c.2.1)
    pure (.yield (none,c.2.1+1,0))
   else pure (.yield (none,c.2.1+1,0))
  else do
   let y ←ltAt' (lo+c.2.1-1) (lo+c.2.1)
   match y with
   |some larger=>if larger=true then pure (.done (none,c.2.1,c.2.2)) else pure (.yield (none,c.2.1+1,c.2.2+1))
   |_=>pure (.done (some none,c.2.1,c.2.2))
 |_=>pure (.done (some none,c.2.1,c.2.2))
def zc(lo n nrem:Nat):SM (Option Nat):=do
 liftM (rule "list.sort.descending-run")
 let c ←BM lo (n+1) nrem
 match c.1 with
 |some r=>pure r
 |none=>if c.2.2>0 then(do
  reverseSlice' (lo+c.2.1-(c.2.2+1)) (lo+c.2.1)
  zb lo c.2.1 nrem) else zb lo c.2.1 nrem
theorem Di(lo nrem:Nat):countRun' lo nrem=(do
 let c ←za lo 1 nrem
 match c.1 with
 |some r=>pure r
 |none=>if(c.2==nrem)=true then pure (some c.2) else
  if c.2>1 then do
   let x ←ltAt' lo (lo+c.2-1)
   match x with
   |some rose=>if rose=true then pure (some c.2) else do
    reverseSlice' lo (lo+c.2)
    zc lo c.2 nrem
   |_=>pure none
  else zc lo c.2 nrem):=by
 rw[countRun'_eq]
 refine cP rfl fun c=> ?_
 obtain⟨o,n⟩:=c
 cases o with
 |some r=>rfl
 |none=>
  dsimp only
  by_cases h1:(n==nrem)=true
  · rw[if_pos h1,if_pos h1]
  rw[if_neg h1,if_neg h1]
  by_cases h2:n>1
  · rw[if_pos h2,if_pos h2]
    refine cP rfl fun x=> ?_
    cases x with
    |none=>rfl
    |some rose=>
     cases rose with
     |true=>rfl
     |false=>
      refine cP rfl fun _=> ?_
      refine cP rfl fun _=>cP rfl fun e=> ?_
      obtain⟨o2,n2,q2⟩:=e
      cases o2 with
      |some r=>rfl
      |none=>
       dsimp only
       split
       · exact cP rfl fun _=>cP rfl fun _=>cP rfl fun z=>by cases z.1<;>rfl
       · exact cP rfl fun _=>cP rfl fun z=>by cases z.1<;>rfl
  · rw[if_neg h2,if_neg h2]
    refine cP rfl fun _=>cP rfl fun e=> ?_
    obtain⟨o2,n2,q2⟩:=e
    cases o2 with
    |some r=>rfl
    |none=>
     dsimp only
     split
     · exact cP rfl fun _=>cP rfl fun _=>cP rfl fun z=>by cases z.1<;>rfl
     · exact cP rfl fun _=>cP rfl fun z=>by cases z.1<;>rfl
end Tim
namespace Tim
open PySem PyProof.Rows
def g(xs:Array Keyed)(k:Nat):Keyed:=(xs[k]?).getD (.none, .none)
theorem n9{xs:Array Keyed}{k:Nat}(h:k<xs.size):xs[k]? =some (g xs k):=by
 unfold g
 rw[getElem?_pos xs k h]
 rfl
theorem u9{xs:Array Keyed}{k:Nat}(h:k<xs.size):g xs k∈xs.toList:=Array.mem_toList_iff.mpr (Array.mem_of_getElem? (n9 h))
section
variable{prog:Program}{w:World}{A:Around}{E:Value→Shared→Prop}{s:Shared}{κ:SortKind}{P:Keyed→Prop}{blt:Keyed→Keyed→Bool}
def Up(blt:Keyed→Keyed→Bool)(xs:Array Keyed)(lo n:Nat):Prop:=∀i j,i≤j→j<n→le blt (g xs (lo+i)) (g xs (lo+j))
def Dn(blt:Keyed→Keyed→Bool)(xs:Array Keyed)(lo n:Nat):Prop:=∀i j,i≤j→j<n→le blt (g xs (lo+j)) (g xs (lo+i))
abbrev eqv(blt:Keyed→Keyed→Bool)(x y:Keyed):Prop:=le blt x y∧le blt y x
structure Kp(lo:Nat)(st st':SortSt):Prop where
 a:(arrOf st').Perm (arrOf st)
 k:kindOf st'=kindOf st
 p:pendingOf st'=pendingOf st
 f:failedOf st'=failedOf st
 o:∀i,i<lo→(arrOf st')[i]? =(arrOf st)[i]?
theorem Kp.refl{lo:Nat}{st:SortSt}:Kp lo st st:=⟨.refl _,rfl,rfl,rfl,fun _ _=>rfl⟩
theorem Kp.trans{lo:Nat}{st st' st2:SortSt}(h:Kp lo st st')(h2:Kp lo st' st2):Kp lo st st2:=⟨h2.a.trans h.a,h2.k.trans h.k,h2.p.trans h.p,h2.f.trans h.f,fun i hi=>(h2.o i hi).trans (h.o i hi)⟩
theorem Kp.size{lo:Nat}{st st':SortSt}(h:Kp lo st st'):(arrOf st').size=(arrOf st).size:=h.a.size_eq
theorem Kp.mem{lo:Nat}{st st':SortSt}(h:Kp lo st st')(hp:∀x∈(arrOf st).toList,P x):∀x∈(arrOf st').toList,P x:=fun x hx=>hp x ((Array.perm_iff_toList_perm.mp h.a).mem_iff.mp hx)
theorem Kp.mir{lo i j:Nat}{st:SortSt}(hi:lo≤i)(hj:j≤(arrOf st).size):Kp lo st (setArr st (mirror (arrOf st) i j ((j-i)/2))):=⟨mirror_perm _ _ _ _,rfl,rfl,rfl,fun k hk=>by
 show (mirror (arrOf st) i j ((j-i)/2))[k]? =_
 rw[getElem?_mirror_all hj,if_neg (by omega)]⟩
theorem xx{xs:Array Keyed}{i j:Nat}(hj:j≤xs.size)(k:Nat):g (mirror xs i j ((j-i)/2)) k=if i≤k∧k<j then g xs (i+j-1-k) else g xs k:=by
 unfold g
 rw[getElem?_mirror_all hj]
 split<;>rfl
theorem Asks.rfl'(an:Asks prog w A E s κ P blt)(x:Keyed):le blt x x:=by
 show blt x x=false
 cases q:blt x x with
 |false=>rfl
 |true=>rw[←q];exact an.asym _ _ q
theorem lq(an:Asks prog w A E s κ P blt){xs:Array Keyed}{i j:Nat}(hj:j≤xs.size)(h:∀k,i≤k→k<j→eqv blt (g xs k) (g xs (j-1)))(k:Nat):eqv blt (g (mirror xs i j ((j-i)/2)) k) (g xs k):=by
 rw[xx hj]
 split
 · have h1:=h (i+j-1-k) (by omega) (by omega)
   have h2:=h k (by omega) (by omega)
   exact⟨an.tr _ _ _ h1.1 h2.2,an.tr _ _ _ h2.1 h1.2⟩
 · exact⟨an.rfl' _,an.rfl' _⟩
theorem Dn.eqv(an:Asks prog w A E s κ P blt){xs ys:Array Keyed}{lo n:Nat}(h:Dn blt xs lo n)(q:∀k,eqv blt (g ys k) (g xs k)):Dn blt ys lo n:=fun i j hij hj=>an.tr _ _ _ (q _).1 (an.tr _ _ _ (h i j hij hj) (q _).2)
theorem Up.snoc(an:Asks prog w A E s κ P blt){xs:Array Keyed}{lo n:Nat}(h:Up blt xs lo n)(q:0<n→le blt (g xs (lo+(n-1))) (g xs (lo+n))):Up blt xs lo (n+1):=fun i j hij hj=>by
 by_cases e:j<n
 · exact h i j hij e
 · have:j=n:=by omega
   subst this
   by_cases e:i=j
   · subst e;exact an.rfl' _
   · exact an.tr _ _ _ (h i (j-1) (by omega) (by omega)) (q (by omega))
theorem Dn.snoc(an:Asks prog w A E s κ P blt){xs:Array Keyed}{lo n:Nat}(h:Dn blt xs lo n)(q:0<n→le blt (g xs (lo+n)) (g xs (lo+(n-1)))):Dn blt xs lo (n+1):=fun i j hij hj=>by
 by_cases e:j<n
 · exact h i j hij e
 · have:j=n:=by omega
   subst this
   by_cases e:i=j
   · subst e;exact an.rfl' _
   · exact an.tr _ _ _ (q (by omega)) (h i (j-1) (by omega) (by omega))
theorem lu(an:Asks prog w A E s κ P blt){st:SortSt}{i j:Nat}{Q:Option Bool→SortSt→Prop}(hk:kindOf st=κ)(hp:∀x∈(arrOf st).toList,P x)(hi:i<(arrOf st).size)(hj:j<(arrOf st).size)
 (h:Q (some (blt (g (arrOf st) i) (g (arrOf st) j))) st):wpS (model prog w) A E s (ltAt' i j) Q st:=by
 rw[ltAt'_eq]
 exact wpS_bind (wpS_get (wpS_bind (bj (n9 hi) (wpS_bind (bj (n9 hj) (an.ask _ _ st Q (hp _ (u9 hi)) (hp _ (u9 hj)) hk h))))))
theorem va(an:Asks prog w A E s κ P blt){st:SortSt}{lo a nrem:Nat}{Q:AsT→SortSt→Prop}(hk:kindOf st=κ)(hp:∀x∈(arrOf st).toList,P x)(hn:lo+nrem≤(arrOf st).size)(ha:1≤a)(han:a≤nrem)(u:Up blt (arrOf st) lo a)
 (h:∀n,a≤n→n≤nrem→Up blt (arrOf st) lo n→(n=nrem∨blt (g (arrOf st) (lo+n)) (g (arrOf st) (lo+(n-1)))=true)→Q (none,n) st):wpS (model prog w) A E s (za lo a nrem) Q st:=by
 unfold za
 refine wpS_forRange (I:=fun x c st'=>st'=st∧c=(none,x)∧Up blt (arrOf st) lo x) ?_ ?_ ⟨rfl,rfl,u⟩
 · rintro x c st' hx1 hx2 ⟨rfl,rfl,ux⟩
   refine wpS_bind (lu an hk hp (by show lo+x<_;omega) (by show lo+x-1<_;omega) ?_)
   have e1:lo+x-1=lo+(x-1):=by omega
   dsimp only
   rw[e1]
   cases q:blt (g (arrOf st') (lo+x)) (g (arrOf st') (lo+(x-1))) with
   |true=>exact wpS_pure (h x hx1 (by omega) ux (.inr q))
   |false=>exact wpS_pure ⟨rfl,rfl,ux.snoc an fun _=>q⟩
 · rintro c st' ⟨rfl,rfl,ux⟩
   rw[show max a nrem=nrem by omega] at ux ⊢
   exact h nrem han (Nat.le_refl _) ux (.inl rfl)
theorem vb(an:Asks prog w A E s κ P blt){st:SortSt}{lo n nrem:Nat}{Q:Option Nat→SortSt→Prop}(hk:kindOf st=κ)(hp:∀x∈(arrOf st).toList,P x)(hn:lo+nrem≤(arrOf st).size)(h1:1≤n)(hnn:n≤nrem)(d:Dn blt (arrOf st) lo n)
 (h:∀m st',Kp lo st st'→1≤m→m≤nrem→Up blt (arrOf st') lo m→Q (some m) st'):wpS (model prog w) A E s (zb lo n nrem) Q st:=by
 unfold zb
 have K:=Kp.mir (st:=st) (Nat.le_refl lo) (show lo+n≤(arrOf st).size by omega)
 refine wpS_bind (wpS_reverse (wpS_bind (va an (K.k.trans hk) (K.mem hp) (by rw[K.size];exact hn) h1 hnn ?_ fun m m1 m2 um _=>wpS_pure (h m _ K (by omega) m2 um))))
 intro i j hij hj
 have hs:lo+n≤(arrOf st).size:=by omega
 show le blt (g (mirror (arrOf st) lo (lo+n) ((lo+n-lo)/2)) (lo+i)) (g (mirror (arrOf st) lo (lo+n) ((lo+n-lo)/2)) (lo+j))
 rw[xx hs,xx hs,if_pos (by omega),if_pos (by omega),show lo+(lo+n)-1-(lo+i)=lo+(n-1-i) by omega,show lo+(lo+n)-1-(lo+j)=lo+(n-1-j) by omega]
 exact d _ _ (by omega) (by omega)
theorem zd(an:Asks prog w A E s κ P blt){st:SortSt}{lo n nrem:Nat}{Q:DeT→SortSt→Prop}(hk:kindOf st=κ)(hp:∀x∈(arrOf st).toList,P x)(hn:lo+nrem≤(arrOf st).size)(h1:1≤n)(hnn:n≤nrem)(d:Dn blt (arrOf st) lo n)
 (h:∀m q st',Kp lo st st'→n≤m→m≤nrem→Dn blt (arrOf st') lo m→q+1≤m→(∀i,lo+m-(q+1)≤i→i<lo+m→eqv blt (g (arrOf st') i) (g (arrOf st') (lo+m-1)))→Q (none,m,q) st'):wpS (model prog w) A E s (BM lo n nrem) Q st:=by
 unfold BM
 refine wpS_forRange (I:=fun x c st'=>∃q,c=(none,x,q)∧Kp lo st st'∧Dn blt (arrOf st') lo x∧q+1≤x∧(∀i,lo+x-(q+1)≤i→i<lo+x→eqv blt (g (arrOf st') i) (g (arrOf st') (lo+x-1)))) ?_ ?_ ⟨0,rfl, .refl,d,by omega,fun i h1 h2=>by
  rw[show i=lo+n-1 by omega];exact⟨an.rfl' _,an.rfl' _⟩⟩
 · rintro x c st' hx1 hx2 ⟨q,rfl,K,dx,hq,eq⟩
   have hk':=K.k.trans hk
   have hp':=K.mem hp
   have hs:lo+nrem≤(arrOf st').size:=by rw[K.size];exact hn
   refine wpS_bind (lu an hk' hp' (by show lo+x<_;omega) (by show lo+x-1<_;omega) ?_)
   dsimp only
   have e1:lo+(x-1)=lo+x-1:=by omega
   have one:∀ys:Array Keyed,∀i,lo+(x+1)-(0+1)≤i→i<lo+(x+1)→eqv blt (g ys i) (g ys (lo+(x+1)-1)):=fun ys i h1 h2=>by
    rw[show i=lo+(x+1)-1 by omega];exact⟨an.rfl' _,an.rfl' _⟩
   cases b1:blt (g (arrOf st') (lo+x)) (g (arrOf st') (lo+x-1)) with
   |true=>
    show wpS _ _ _ _ (if q>0 then _ else _) _ _
    by_cases hq0:q>0
    · rw[if_pos hq0]
      have M:=Kp.mir (lo:=lo) (st:=st') (i:=lo+x-(q+1)) (j:=lo+x) (by omega) (by omega)
      refine wpS_bind (wpS_reverse (wpS_pure ⟨0,rfl,K.trans M,Dn.snoc an (dx.eqv an (lq an (by omega) eq)) fun _=> ?_,by omega,one _⟩))
      rw[e1]
      have m1:=lq an (show lo+x≤(arrOf st').size by omega) eq (lo+x)
      have m2:=lq an (show lo+x≤(arrOf st').size by omega) eq (lo+x-1)
      exact an.tr _ _ _ m1.1 (an.tr _ _ _ (an.asym _ _ b1) m2.2)
    · rw[if_neg hq0]
      exact wpS_pure ⟨0,rfl,K,Dn.snoc an dx fun _=>by rw[e1];exact an.asym _ _ b1,by omega,one _⟩
   |false=>
    refine wpS_bind (lu an hk' hp' (by show lo+x-1<_;omega) (by show lo+x<_;omega) ?_)
    dsimp only
    cases b2:blt (g (arrOf st') (lo+x-1)) (g (arrOf st') (lo+x)) with
    |true=>exact wpS_pure (h x q st' K hx1 (by omega) dx hq eq)
    |false=>
     refine wpS_pure ⟨q+1,rfl,K,Dn.snoc an dx fun _=>by rw[e1];exact b2,by omega,fun i h1 h2=> ?_⟩
     have e2:lo+(x+1)-1=lo+x:=by omega
     rw[e2]
     by_cases hi:i=lo+x
     · rw[hi];exact⟨an.rfl' _,an.rfl' _⟩
     · have:=eq i (by omega) (by omega)
       exact⟨an.tr _ _ _ this.1 b1,an.tr _ _ _ b2 this.2⟩
 · rintro c st' ⟨q,rfl,K,dx,hq,eq⟩
   rw[show max n nrem=nrem by omega] at dx hq eq ⊢
   exact h nrem q st' K hnn (Nat.le_refl _) dx hq eq
theorem vc(an:Asks prog w A E s κ P blt){st:SortSt}{lo n nrem:Nat}{Q:Option Nat→SortSt→Prop}(hk:kindOf st=κ)(hp:∀x∈(arrOf st).toList,P x)(hn:lo+nrem≤(arrOf st).size)(hnn:n+1≤nrem)(d:Dn blt (arrOf st) lo (n+1))
 (h:∀m st',Kp lo st st'→1≤m→m≤nrem→Up blt (arrOf st') lo m→Q (some m) st'):wpS (model prog w) A E s (zc lo n nrem) Q st:=by
 unfold zc
 refine wpS_bind (wpS_lift (wpAny_rule ⟨rfl,wpS_bind (zd an hk hp hn (by omega) hnn d fun m q st' K m1 m2 dm hq eq=> ?_)⟩))
 show wpS _ _ _ _ (if q>0 then _ else _) _ _
 have hs:lo+nrem≤(arrOf st').size:=by rw[K.size];exact hn
 by_cases hq0:q>0
 · rw[if_pos hq0]
   have M:=Kp.mir (lo:=lo) (st:=st') (i:=lo+m-(q+1)) (j:=lo+m) (by omega) (by omega)
   have K':=K.trans M
   have hm:1≤m:=by omega
   have hs2:lo+m≤(arrOf st').size:=by omega
   exact wpS_bind (wpS_reverse (vb an (K'.k.trans hk) (K'.mem hp) (by rw[K'.size];exact hn) hm m2 (dm.eqv an (lq an hs2 eq)) fun m st2 K2=>h m st2 (K'.trans K2)))
 · rw[if_neg hq0]
   have hm:1≤m:=by omega
   exact vb an (K.k.trans hk) (K.mem hp) hs hm m2 dm fun m st2 K2=>h m st2 (K.trans K2)
theorem Dj(an:Asks prog w A E s κ P blt){st:SortSt}{lo nrem:Nat}{Q:Option Nat→SortSt→Prop}(hk:kindOf st=κ)(hp:∀x∈(arrOf st).toList,P x)(hn:lo+nrem≤(arrOf st).size)(h1:1≤nrem)
 (h:∀m st',Kp lo st st'→1≤m→m≤nrem→Up blt (arrOf st') lo m→Q (some m) st'):wpS (model prog w) A E s (countRun' lo nrem) Q st:=by
 rw[Di]
 refine wpS_bind (va an hk hp hn (Nat.le_refl 1) h1 (fun i j hij hj=>by rw[show i=j by omega];exact an.rfl' _) fun n n1 n2 u q=> ?_)
 show wpS _ _ _ _ (if(n==nrem)=true then _ else _) _ _
 by_cases e:n=nrem
 · rw[if_pos (by simpa using e)]
   exact wpS_pure (h n st .refl n1 n2 u)
 rw[if_neg (by simpa using e)]
 have b1:=q.resolve_left e
 by_cases e1:n>1
 · show wpS _ _ _ _ (if n>1 then _ else _) _ _
   rw[if_pos e1]
   refine wpS_bind (lu an hk hp (by omega) (by show lo+n-1<_;omega) ?_)
   dsimp only
   cases b2:blt (g (arrOf st) lo) (g (arrOf st) (lo+n-1)) with
   |true=>exact wpS_pure (h n st .refl n1 n2 u)
   |false=>
    have eq:∀k,lo≤k→k<lo+n→eqv blt (g (arrOf st) k) (g (arrOf st) (lo+n-1)):=fun k k1 k2=>by
     have a1:=u 0 (k-lo) (by omega) (by omega)
     have a2:=u (k-lo) (n-1) (by omega) (by omega)
     rw[show lo+(k-lo)=k by omega] at a1 a2
     rw[show lo+(n-1)=lo+n-1 by omega] at a2
     exact⟨a2,an.tr _ _ _ b2 a1⟩
    have M:=Kp.mir (lo:=lo) (st:=st) (i:=lo) (j:=lo+n) (Nat.le_refl _) (by omega)
    have me:=lq an (show lo+n≤(arrOf st).size by omega) eq
    refine wpS_bind (wpS_reverse (vc an (M.k.trans hk) (M.mem hp) (by rw[M.size];exact hn) (by omega) ?_ fun m st2 K2=>h m st2 (M.trans K2)))
    refine Dn.eqv an (xs:=arrOf st) (Dn.snoc an (fun i j hij hj=> ?_) fun _=>an.asym _ _ b1) me
    exact an.tr _ _ _ (eq (lo+j) (by omega) (by omega)).1 (eq (lo+i) (by omega) (by omega)).2
 · show wpS _ _ _ _ (if n>1 then _ else _) _ _
   rw[if_neg e1]
   have:n=1:=by omega
   subst this
   exact vc an hk hp hn (by omega) (Dn.snoc an (fun i j hij hj=>by rw[show i=j by omega];exact an.rfl' _) fun _=>an.asym _ _ b1) h
theorem Am{xs:Array Keyed}{src d:Nat}(hs:src<xs.size)(hd:d≤src)(k:Nat):g (bubble xs src d) k=if k=src-d then g xs src else if src-d<k∧k≤src then g xs (k-1) else g xs k:=by
 unfold g
 rw[getElem?_bubble hs d hd]
 split
 · rfl
 · split<;>rfl
theorem Dk(an:Asks prog w A E s κ P blt){st:SortSt}{lo n ok:Nat}{Q:Bool→SortSt→Prop}(hk:kindOf st=κ)(hp:∀x∈(arrOf st).toList,P x)(hn:lo+n≤(arrOf st).size)(h1:1≤ok)(hok:ok≤n)(u:Up blt (arrOf st) lo ok)
 (h:∀st',Kp lo st st'→Up blt (arrOf st') lo n→Q true st'):wpS (model prog w) A E s (binarySort' lo n ok) Q st:=by
 rw[binarySort'_eq]
 refine wpS_bind (wpS_mono (wpS_forRange (I:=fun k c st'=>c=(none,())∧Kp lo st st'∧Up blt (arrOf st') lo k) (Q:=fun c st'=>c=(none,())∧Kp lo st st'∧Up blt (arrOf st') lo n) ?_ ?_ ⟨rfl, .refl,by rw[show max ok 1=ok by omega];exact u⟩) ?_)
 · rintro k c st' hk1 hk2 ⟨rfl,K,uk⟩
   have hs:lo+n≤(arrOf st').size:=by rw[K.size];exact hn
   refine wpS_bind (wpS_mono (wpS_forRange (I:=fun x c st2=>st2=st'∧∃l r,c=(none,l,r)∧l≤r∧r≤k∧r-l≤k-x∧(∀i,i<l→le blt (g (arrOf st') (lo+i)) (g (arrOf st') (lo+k)))∧∀i,r≤i→i<k→le blt (g (arrOf st') (lo+k)) (g (arrOf st') (lo+i)))
    (Q:=fun c st2=>st2=st'∧∃l,c=(none,l,l)∧l≤k∧(∀i,i<l→le blt (g (arrOf st') (lo+i)) (g (arrOf st') (lo+k)))∧∀i,l≤i→i<k→le blt (g (arrOf st') (lo+k)) (g (arrOf st') (lo+i))) ?_ ?_ ⟨rfl,0,k,rfl,by omega,by omega,by omega,fun i hi=>by omega,fun i h1 h2=>by omega⟩) ?_)
   · rintro x c st2 _ hx ⟨rfl,l,r,rfl,hlr,hrk,hm,h1,h2⟩
     dsimp only
     by_cases e:l≥r
     · rw[if_pos e]
       have:l=r:=by omega
       subst this
       exact wpS_pure ⟨rfl,l,rfl,hrk,h1,h2⟩
     rw[if_neg e]
     refine wpS_bind (lu an (K.k.trans hk) (K.mem hp) (by omega) (by omega) ?_)
     dsimp only
     cases b1:blt (g (arrOf st2) (lo+k)) (g (arrOf st2) (lo+(l+r)/2)) with
     |true=>
      rw[if_pos rfl]
      exact wpS_pure ⟨rfl,l,(l+r)/2,rfl,by omega,by omega,by omega,h1,fun i q1 q2=>an.tr _ _ _ (an.asym _ _ b1) (uk _ _ q1 q2)⟩
     |false=>
      rw[if_neg Bool.false_ne_true]
      exact wpS_pure ⟨rfl,(l+r)/2+1,r,rfl,by omega,by omega,by omega,fun i q1=>an.tr _ _ _ (uk i ((l+r)/2) (by omega) (by omega)) b1,h2⟩
   · rintro c st2 ⟨rfl,l,r,rfl,hlr,hrk,hm,h1,h2⟩
     have:l=r:=by omega
     subst this
     exact⟨rfl,l,rfl,hrk,h1,h2⟩
   · rintro c st2 ⟨rfl,l,rfl,hlk,h1,h2⟩
     show wpS _ _ _ _ (do moveDown' (lo+k) (lo+l);pure (ForInStep.yield (none,()))) _ _
     rw[moveDown'_eq]
     have hb:lo+k<(arrOf st2).size:=by omega
     have ex:∀i,(bubble (arrOf st2) (lo+k) (lo+k-(lo+l)))[i]? =_:=getElem?_bubble hb (lo+k-(lo+l)) (by omega)
     refine wpS_bind (wpS_modify (wpS_pure ⟨rfl,K.trans ⟨bubble_perm _ _ _,rfl,rfl,rfl,fun i hi=> ?_⟩,fun i j hij hj=> ?_⟩))
     · show (bubble (arrOf st2) (lo+k) (lo+k-(lo+l)))[i]? =_
       rw[ex,if_neg (by omega),if_neg (by omega)]
     · show le blt (g (bubble (arrOf st2) (lo+k) (lo+k-(lo+l))) (lo+i)) (g (bubble (arrOf st2) (lo+k) (lo+k-(lo+l))) (lo+j))
       rw[Am hb (by omega),Am hb (by omega),show lo+k-(lo+k-(lo+l))=lo+l by omega]
       by_cases i1:i=l
       · rw[if_pos (by omega)]
         by_cases j1:j=l
         · rw[if_pos (by omega)];exact an.rfl' _
         · rw[if_neg (by omega),if_pos (by omega),show lo+j-1=lo+(j-1) by omega]
           exact h2 _ (by omega) (by omega)
       · rw[if_neg (by omega)]
         by_cases i2:l<i
         · rw[if_pos (by omega),if_neg (by omega),if_pos (by omega),show lo+i-1=lo+(i-1) by omega,show lo+j-1=lo+(j-1) by omega]
           exact uk _ _ (by omega) (by omega)
         · rw[if_neg (by omega)]
           by_cases j1:j=l
           · rw[if_pos (by omega)];exact h1 _ (by omega)
           · rw[if_neg (by omega)]
             by_cases j2:l<j
             · rw[if_pos (by omega),show lo+j-1=lo+(j-1) by omega]
               exact uk _ _ (by omega) (by omega)
             · rw[if_neg (by omega)];exact uk _ _ hij (by omega)
 · rintro c st' ⟨rfl,K,uk⟩
   rw[show max (max ok 1) n=n by omega] at uk
   exact⟨rfl,K,uk⟩
 · rintro c st' ⟨rfl,K,uk⟩
   exact wpS_pure (h st' K uk)
end
end Tim
namespace Tim
open PySem PyProof.Rows
theorem rK(i:Nat):mergeAt' i=(do
 let s ←get
 let(some (sa,na,power),some (sb,nb,_)):=((pendingOf s)[i]?,(pendingOf s)[i+1]?)|unsupported "internal:list.sort.pending"
 set (setPending s (((pendingOf s).setIfInBounds i (sa,na+nb,power)).eraseIdxIfInBounds (i+1)))
 let some k ←g4 false (←elem' (arrOf s) sb) (arrOf s) sa na 0|return false
 if na-k==0 then return true
 let some m ←g4 true (←elem' (arrOf s) (sa+k+(na-k)-1)) (arrOf s) sb nb (nb-1)|return false
 if m==0 then return true
 let x:=(arrOf s).extract (sa+k) sb
 let y:=(arrOf s).extract sb (sb+m)
 let merged ←if na-k≤m then nk x y else nr x y
 modify fun s=>setArr s (merged.toList.zipIdx.foldl (fun a p=>a.setIfInBounds (sa+k+p.2) p.1) (arrOf s))
 return (failedOf (←get)).isNone):=rfl
abbrev Rns:=List (Nat×Nat×Nat)
def tot(L:Rns):Nat:=(L.map fun r=>r.2.1).sum
def Rn(blt:Keyed→Keyed→Bool):Nat→Rns→List Keyed→Prop
 |_,[],_=>True
 |s,r::L,xs=>r.1=s∧0<r.2.1∧r.2.1≤xs.length∧Srt blt (xs.take r.2.1)∧Rn blt (s+r.2.1) L (xs.drop r.2.1)
section
variable{blt:Keyed→Keyed→Bool}
theorem lv(L M:Rns):tot (L++M)=tot L+tot M:=by simp[tot]
theorem Rn.app:∀{L M:Rns} {s:Nat} {xs:List Keyed},Rn blt s (L++M) xs↔Rn blt s L xs∧Rn blt (s+tot L) M (xs.drop (tot L))
 |[],M,s,xs=>by simp[Rn,tot]
 |r::L,M,s,xs=>by
  have ih:=Rn.app (L:=L) (M:=M) (s:=s+r.2.1) (xs:=xs.drop r.2.1)
  have e:tot (r::L)=r.2.1+tot L:=rfl
  rw[List.drop_drop,Nat.add_assoc] at ih
  show (_∧_∧_∧_∧Rn blt _ (L++M) _)↔(_∧_∧_∧_∧_)∧_
  rw[ih,e]
  constructor
  · rintro⟨a,b,c,d,f,g⟩;exact⟨⟨a,b,c,d,f⟩,g⟩
  · rintro⟨⟨a,b,c,d,f⟩,g⟩;exact⟨a,b,c,d,f,g⟩
theorem Rn.pre:∀{L:Rns} {s:Nat} {xs ys:List Keyed},Rn blt s L xs→xs.take (tot L)=ys.take (tot L)→tot L≤ys.length→Rn blt s L ys
 |[],_,_,_,_,_,_=>trivial
 |r::L,s,xs,ys,⟨a,b,c,d,f⟩,h,hl=>by
  have e:tot (r::L)=r.2.1+tot L:=rfl
  rw[e] at h hl
  have h1:xs.take r.2.1=ys.take r.2.1:=by
   have:=congrArg (List.take r.2.1) h
   rw[List.take_take,List.take_take,Nat.min_eq_left (by omega)] at this
   exact this
  have h2:(xs.drop r.2.1).take (tot L)=(ys.drop r.2.1).take (tot L):=by
   have:=congrArg (List.drop r.2.1) h
   rw[List.drop_take,List.drop_take,Nat.add_sub_cancel_left] at this
   exact this
  exact⟨a,b,by omega,by rw[←h1];exact d,Rn.pre f h2 (by rw[List.length_drop];omega)⟩
theorem Rn.len:∀{L:Rns} {s:Nat} {xs:List Keyed},Rn blt s L xs→tot L≤xs.length∧L.length≤tot L
 |[],_,_,_=>⟨Nat.zero_le _,Nat.zero_le _⟩
 |r::L,s,xs,⟨a,b,c,d,f⟩=>by
  have e:tot (r::L)=r.2.1+tot L:=rfl
  have:=f.len
  rw[List.length_drop] at this
  rw[e,List.length_cons]
  omega
theorem Rn.join{L1 L2:Rns}{sa na p sb nb q:Nat}{xs ys Z:List Keyed}(R:Rn blt 0 (L1++(sa,na,p)::(sb,nb,q)::L2) xs)(e:ys=xs.take sa++(Z++xs.drop (sa+na+nb)))(pz:Z.Perm ((xs.drop sa).take (na+nb)))(sz:Srt blt Z):
 ys.Perm xs∧Rn blt 0 (L1++(sa,na+nb,p)::L2) ys∧ys.drop (tot (L1++(sa,na,p)::(sb,nb,q)::L2))=xs.drop (tot (L1++(sa,na,p)::(sb,nb,q)::L2))∧tot (L1++(sa,na+nb,p)::L2)=tot (L1++(sa,na,p)::(sb,nb,q)::L2):=by
 obtain⟨R1,R2⟩:=Rn.app.mp R
 obtain⟨a,b,c,d,a',b',c',d',f⟩:=R2
 dsimp only at a b c d a' b' c' d' f
 have e1:tot L1=sa:=by rw[a];omega
 rw[e1] at c c' f
 rw[Nat.zero_add,List.drop_drop,List.drop_drop,←Nat.add_assoc] at f
 rw[List.length_drop] at c
 rw[List.length_drop,List.length_drop] at c'
 have lx:(xs.take sa).length=sa:=by rw[List.length_take];omega
 have lz:Z.length=na+nb:=by rw[pz.length_eq,List.length_take,List.length_drop];omega
 have xd:xs=xs.take sa++((xs.drop sa).take (na+nb)++xs.drop (sa+na+nb)):=by
  rw[Nat.add_assoc,←List.drop_drop,List.take_append_drop,List.take_append_drop]
 have tt:tot (L1++(sa,na,p)::(sb,nb,q)::L2)=sa+na+nb+tot L2:=by
  rw[lv,e1]
  show sa+(na+(nb+tot L2))=_
  omega
 have yd:ys.drop (sa+na+nb)=xs.drop (sa+na+nb):=by
  rw[e,←List.append_assoc,List.drop_append_of_le_length (by simp[lx,lz];omega),List.drop_of_length_le (by simp[lx,lz];omega),List.nil_append]
 have ysd:ys.drop sa=Z++xs.drop (sa+na+nb):=by
  rw[e,List.drop_append_of_le_length (by omega),List.drop_of_length_le (by omega),List.nil_append]
 refine⟨?_,Rn.app.mpr ⟨R1.pre ?_ ?_, ?_⟩, ?_, ?_⟩
 · rw[e]
   conv=>rhs;rw[xd]
   exact(pz.append_right _).append_left _
 · rw[e1,e,List.take_append_of_le_length (by omega),List.take_of_length_le (Nat.le_of_eq lx)]
 · rw[e1,e];simp[lx]
 · rw[e1,ysd,Nat.zero_add]
   refine⟨rfl,by show 0<na+nb;omega,by show na+nb≤_;simp[lz], ?_, ?_⟩
   · show Srt blt (List.take (na+nb) _)
     rw[List.take_append_of_le_length (by omega),List.take_of_length_le (by omega)]
     exact sz
   · show Rn blt (sa+(na+nb)) L2 (List.drop (na+nb) _)
     rw[List.drop_append_of_le_length (by omega),List.drop_of_length_le (by omega),List.nil_append,←Nat.add_assoc]
     exact f
 · rw[tt,←List.drop_drop,yd,List.drop_drop]
 · rw[tt,lv,e1]
   show sa+(na+nb+tot L2)=_
   omega
theorem rL{b:Nat}:∀(l:List Keyed) (n:Nat) (xs:Array Keyed),b+n+l.length≤xs.size→((l.zipIdx n).foldl (fun a p=>a.setIfInBounds (b+p.2) p.1) xs).toList=xs.toList.take (b+n)++(l++xs.toList.drop (b+n+l.length))
 |[],n,xs,_=>by
  show xs.toList=_
  simp
 |x::l,n,xs,h=>by
  rw[List.length_cons] at h
  rw[List.zipIdx_cons,List.foldl_cons,rL l (n+1) _ (by rw[Array.size_setIfInBounds];omega),Array.toList_setIfInBounds]
  have hb:b+n<xs.toList.length:=by simp;omega
  have e1:(xs.toList.set (b+n) x).take (b+(n+1))=xs.toList.take (b+n)++[x]:=by
   rw[←Nat.add_assoc,List.take_add_one,List.take_set_of_le (Nat.le_refl _),List.getElem?_set_self hb]
   rfl
  have e2:(xs.toList.set (b+n) x).drop (b+(n+1)+l.length)=xs.toList.drop (b+n+(l.length+1)):=by
   rw[List.drop_set_of_lt (by omega)]
   congr 1
   omega
  rw[e1,e2,List.append_assoc,List.length_cons]
  rfl
end
end Tim
namespace Tim
open PySem PyProof.Rows
theorem ze{σ:Type}{M:Model}{A:Around}{E:Value→Shared→Prop}{s:Shared}{st st':σ}{Q:PUnit→σ→Prop}(h:Q ⟨⟩ st'):wpS M A E s (set st':StateT σ Sem PUnit) Q st:=by
 unfold wpS
 rw[StateT.run_set]
 exact wpAny_pure ⟨rfl,h⟩
section
variable{prog:Program}{w:World}{A:Around}{E:Value→Shared→Prop}{s:Shared}{κ:SortKind}{P:Keyed→Prop}{blt:Keyed→Keyed→Bool}
theorem mR(an:Asks prog w A E s κ P blt){a:Array Keyed}{i n:Nat}(h:Srt blt ((a.toList.drop i).take n)):∀p q x y,p≤q→q<n→a[i+p]? =some x→a[i+q]? =some y→le blt x y:=by
 intro p q x y hpq hq hx hy
 obtain⟨h1,rfl⟩:=Array.getElem?_eq_some_iff.mp hx
 obtain⟨h2,rfl⟩:=Array.getElem?_eq_some_iff.mp hy
 by_cases e:p=q
 · subst e;exact an.rfl' _
 · have:=List.pairwise_iff_getElem.mp h p q (by simp;omega) (by simp;omega) (by omega)
   simpa using this
theorem tZ(an:Asks prog w A E s κ P blt){st:SortSt}{L1 L2:Rns}{sa na p sb nb q:Nat}{Q:Bool→SortSt→Prop}(hk:kindOf st=κ)(hp:∀x∈(arrOf st).toList,P x)(hf:failedOf st=none)(hq:pendingOf st=(L1++(sa,na,p)::(sb,nb,q)::L2).toArray)(R:Rn blt 0 (L1++(sa,na,p)::(sb,nb,q)::L2) (arrOf st).toList)
 (h:∀st',kindOf st'=κ→failedOf st'=none→pendingOf st'=(L1++(sa,na+nb,p)::L2).toArray→(arrOf st').toList.Perm (arrOf st).toList∧Rn blt 0 (L1++(sa,na+nb,p)::L2) (arrOf st').toList∧(arrOf st').toList.drop (tot (L1++(sa,na,p)::(sb,nb,q)::L2))=(arrOf st).toList.drop (tot (L1++(sa,na,p)::(sb,nb,q)::L2))∧tot (L1++(sa,na+nb,p)::L2)=tot (L1++(sa,na,p)::(sb,nb,q)::L2)→Q true st'):wpS (model prog w) A E s (mergeAt' L1.length) Q st:=by
 obtain⟨-,R2⟩:=Rn.app.mp R
 obtain⟨a1,b1,c1,d1,a2,b2,c2,d2,-⟩:=R2
 dsimp only at a1 b1 c1 d1 a2 b2 c2 d2
 rw[Nat.zero_add] at a1 a2
 rw[←a1] at a2 c1 d1 c2 d2
 rw[List.length_drop,Array.length_toList] at c1
 rw[List.length_drop,List.length_drop,Array.length_toList] at c2
 rw[List.drop_drop,←a2] at d2
 have same:∀st',arrOf st'=arrOf st→(∀x∈((arrOf st).toList.drop sa).take na,∀y∈((arrOf st).toList.drop sb).take nb,le blt x y)→(arrOf st').toList.Perm (arrOf st).toList∧Rn blt 0 (L1++(sa,na+nb,p)::L2) (arrOf st').toList∧(arrOf st').toList.drop (tot (L1++(sa,na,p)::(sb,nb,q)::L2))=(arrOf st).toList.drop (tot (L1++(sa,na,p)::(sb,nb,q)::L2))∧tot (L1++(sa,na+nb,p)::L2)=tot (L1++(sa,na,p)::(sb,nb,q)::L2):=fun st' e hx=>by
  rw[e]
  refine R.join (Z:=((arrOf st).toList.drop sa).take (na+nb)) ?_ (.refl _) ?_
  · rw[Nat.add_assoc,←List.drop_drop,List.take_append_drop,List.take_append_drop]
  · rw[List.take_add,List.drop_drop,←a2]
    exact List.pairwise_append.mpr ⟨d1,d2,hx⟩
 have e1:(pendingOf st)[L1.length]? =some (sa,na,p):=by rw[hq];simp
 have e2:(pendingOf st)[L1.length+1]? =some (sb,nb,q):=by rw[hq];simp
 have e3:((pendingOf st).setIfInBounds L1.length (sa,na+nb,p)).eraseIdxIfInBounds (L1.length+1)=(L1++(sa,na+nb,p)::L2).toArray:=by
  rw[hq]
  apply Array.ext'
  simp[Array.eraseIdxIfInBounds,List.set_append,List.eraseIdx_append]
  exact fun z=>absurd z (by omega)
 rw[rK]
 refine wpS_bind (wpS_get ?_)
 dsimp only
 rw[e1,e2]
 dsimp only
 rw[e3]
 refine wpS_bind (ze ?_)
 have hs1:sb<(arrOf st).size:=by omega
 refine wpS_bind (bj (n9 hs1) (wpS_bind (oN an hk (hp _ (u9 hs1)) hp (mR an d1) (by omega) (by omega) fun k hkn k1 k2=> ?_)))
 dsimp only
 simp only[Bool.false_eq_true,if_false] at k1 k2
 have b0:∀y∈((arrOf st).toList.drop sb).take nb,le blt (g (arrOf st) sb) y:=fun y hy=>by
  obtain⟨j,hj,e⟩:=e7 hy
  exact mR an d2 0 j _ y (by omega) hj (n9 hs1) e
 have kA:∀x∈((arrOf st).toList.drop sa).take k,∀y∈((arrOf st).toList.drop sb).take nb,le blt x y:=fun x hx y hy=>by
  obtain⟨j,hj,e⟩:=e7 hx
  exact an.tr _ _ _ (k1 j x hj e) (b0 y hy)
 by_cases h1:na-k=0
 · rw[if_pos (by simpa using h1)]
   have:k=na:=by omega
   subst this
   exact wpS_pure (h _ hk hf rfl (same _ rfl kA))
 rw[if_neg (by simpa using h1)]
 have hs2:sa+k+(na-k)-1<(arrOf st).size:=by omega
 have es2:sa+k+(na-k)-1=sa+(na-1):=by omega
 rw[es2] at hs2 ⊢
 refine wpS_bind (bj (n9 hs2) (wpS_bind (oN an hk (hp _ (u9 hs2)) hp (mR an d2) (by omega) (by omega) fun m hmn m1 m2=> ?_)))
 dsimp only
 simp only[if_true] at m1 m2
 have a0:∀x∈((arrOf st).toList.drop sa).take na,le blt x (g (arrOf st) (sa+(na-1))):=fun y hy=>by
  obtain⟨j,hj,e⟩:=e7 hy
  exact mR an d1 j (na-1) y _ (by omega) (by omega) e (n9 hs2)
 by_cases h2:m=0
 · rw[if_pos (by simpa using h2)]
   refine wpS_pure (h _ hk hf rfl (same _ rfl fun x hx y hy=>an.tr _ _ _ (a0 x hx) ?_))
   obtain⟨j,hj,e⟩:=e7 hy
   exact m2 j y (by omega) hj e
 rw[if_neg (by simpa using h2)]
 have ex:((arrOf st).extract (sa+k) sb).toList=((arrOf st).toList.drop (sa+k)).take (na-k):=by
  have:=y9 (arrOf st) (sa+k) (na-k)
  rw[show sa+k+(na-k)=sb by omega] at this
  exact this
 have ey:=y9 (arrOf st) sb m
 have sx:((arrOf st).extract (sa+k) sb).size=na-k:=by simp;omega
 have sy:((arrOf st).extract sb (sb+m)).size=m:=by simp;omega
 have gx:∀i,i<na-k→((arrOf st).extract (sa+k) sb)[i]? =some (g (arrOf st) (sa+k+i)):=fun i hi=>by
  rw[←n9 (by omega),Array.getElem?_extract,if_pos (by omega)]
 have gy:∀i,i<m→((arrOf st).extract sb (sb+m))[i]? =some (g (arrOf st) (sb+i)):=fun i hi=>by
  rw[←n9 (by omega),Array.getElem?_extract,if_pos (by omega)]
 have lA:((arrOf st).toList.drop sa).take na=((arrOf st).toList.drop sa).take k++((arrOf st).toList.drop (sa+k)).take (na-k):=by
  rw[←List.drop_drop,←List.take_add,show k+(na-k)=na by omega]
 have lB:((arrOf st).toList.drop sb).take nb=((arrOf st).toList.drop sb).take m++((arrOf st).toList.drop (sb+m)).take (nb-m):=by
  rw[←List.drop_drop,←List.take_add,show m+(nb-m)=nb by omega]
 rw[lA] at d1
 rw[lB] at d2
 obtain⟨dA1,dA2,dA⟩:=List.pairwise_append.mp d1
 obtain⟨dB1,dB2,dB⟩:=List.pairwise_append.mp d2
 have T:Two P blt ((arrOf st).extract (sa+k) sb) ((arrOf st).extract sb (sb+m)):={
  pa:=fun x hx=>by rw[ex] at hx;exact hp x (List.mem_of_mem_drop (List.mem_of_mem_take hx))
  pb:=fun x hx=>by rw[ey] at hx;exact hp x (List.mem_of_mem_drop (List.mem_of_mem_take hx))
  sa:=by unfold Srt;rw[ex];exact dA2
  sb:=by unfold Srt;rw[ey];exact dB1
  na:=by omega
  nb:=by omega
  first:=fun x y hx hy=>by
   rw[gx 0 (by omega)] at hx
   rw[gy 0 (by omega)] at hy
   cases hx
   cases hy
   exact k2 k _ (Nat.le_refl _) (by omega) (n9 (by omega))
  last:=fun x y hx hy=>by
   rw[sx,gx _ (by omega),show sa+k+(na-k-1)=sa+(na-1) by omega] at hx
   cases hx
   rw[ey] at hy
   obtain⟨j,hj,e⟩:=e7 hy
   exact m1 j y hj e}
 have fin:∀(r:Array Keyed) (st':SortSt),SmG (setPending st (L1++(sa,na+nb,p)::L2).toArray) st'→iT blt ((arrOf st).extract (sa+k) sb) ((arrOf st).extract sb (sb+m)) r→wpS (model prog w) A E s (do
  modify fun s=>setArr s (r.toList.zipIdx.foldl (fun a p=>a.setIfInBounds (sa+k+p.2) p.1) (arrOf s))
  return (failedOf (←get)).isNone:SM Bool) Q st':=by
  intro r st' S F
  have ea:arrOf st'=arrOf st:=S.a
  have ef:failedOf st'=none:=S.f.trans hf
  have lr:r.toList.length=na-k+m:=by rw[F.1.length_eq,List.length_append,Array.length_toList,Array.length_toList,sx,sy]
  refine wpS_bind (wpS_modify (wpS_bind (wpS_get (wpS_pure ?_))))
  show Q (failedOf st').isNone _
  rw[ef]
  refine h _ (S.k.trans hk) ef S.p ?_
  show (Array.toList (r.toList.zipIdx.foldl _ (arrOf st'))).Perm _∧Rn blt 0 _ (Array.toList (r.toList.zipIdx.foldl _ (arrOf st')))∧_
  rw[ea]
  have fs:=rL (b:=sa+k) r.toList 0 (arrOf st) (by rw[lr];omega)
  rw[Nat.add_zero,lr] at fs
  have pr:=F.1
  rw[ex,ey] at pr
  refine R.join (Z:=((arrOf st).toList.drop sa).take k++(r.toList++((arrOf st).toList.drop (sb+m)).take (nb-m))) ?_ ?_ ?_
  · refine fs.trans ?_
    rw[List.take_add,List.append_assoc,List.append_assoc,List.append_assoc,show sa+k+(na-k+m)=sb+m by omega,show sa+na+nb=sb+m+(nb-m) by omega,←List.drop_drop (i:=nb-m),List.take_append_drop]
  · rw[List.take_add (i:=na),List.drop_drop,←a2,lA,lB,List.append_assoc]
    refine List.Perm.append_left _ ?_
    rw[←List.append_assoc]
    exact List.Perm.append_right _ pr
  · have inr:∀z∈r.toList,z∈((arrOf st).toList.drop (sa+k)).take (na-k)∨z∈((arrOf st).toList.drop sb).take m:=fun z hz=>List.mem_append.mp (pr.mem_iff.mp hz)
    refine List.pairwise_append.mpr ⟨dA1,List.pairwise_append.mpr ⟨F.2,dB2,fun x hx y hy=> ?_⟩,fun x hx y hy=> ?_⟩
    · rcases inr x hx with q|q
      · refine an.tr _ _ _ (a0 x (by rw[lA];exact List.mem_append.mpr (.inr q))) ?_
        obtain⟨j,hj,e⟩:=e7 hy
        rw[Nat.add_assoc] at e
        exact m2 (m+j) y (by omega) (by omega) e
      · exact dB x q y hy
    · rcases List.mem_append.mp hy with hy|hy
      · rcases inr y hy with q|q
        · exact dA x hx y q
        · exact kA x hx y (by rw[lB];exact List.mem_append.mpr (.inl q))
      · exact kA x hx y (by rw[lB];exact List.mem_append.mpr (.inr hy))
 first
 |refine wpS_bind ?_
  split
  · exact nq an T hk fun r st' S F=>fin r st' S F
  · exact nt an T hk fun r st' S F=>fin r st' S F
 |split
  · exact wpS_bind (nq an T hk fun r st' S F=>fin r st' S F)
  · exact wpS_bind (nt an T hk fun r st' S F=>fin r st' S F)
end
end Tim
namespace Tim
open PySem PyProof.Rows
abbrev SrC:=Option Unit×Nat
def BN(size pw:Nat):SM (Option Unit×Unit):=forIn [0:size] ((none:Option Unit),()) fun _ _=>do
 let s ←get
 match if(pendingOf s).size>1 then(pendingOf s)[(pendingOf s).size-2]? else none with
 |some r=>if r.2.2≤pw then pure (.done (none,())) else do
  let b ←mergeAt' ((pendingOf s).size-2)
  if(!b)=true then pure (.done (some (),())) else pure (.yield (none,()))
 |none=>pure (.done (none,()))
def t0(lo n:Nat):SM (ForInStep SrC):=do
 modify fun s=>setPending s ((pendingOf s).push (lo,n,0))
 pure (.yield (none,lo+n))
def BO(size n:Nat)(r:Nat×Nat×Nat):Nat:=power' size (2*r.1+r.2.1) (2*r.1+r.2.1+r.2.1+n) size
def mf(size lo n:Nat):SM (ForInStep SrC):=do
 let s ←get
 match (pendingOf s).back? with
 |some r=>do
  let c ←BN size (BO size n r)
  match c.1 with
  |some u=>pure (.done (some u,lo))
  |none=>do
   modify fun s=>setPending s ((pendingOf s).modify ((pendingOf s).size-1) fun x=>(x.1,x.2.1,BO size n r))
   t0 lo n
 |none=>t0 lo n
def t4(size lo:Nat):SM (ForInStep SrC):=if lo≥size then pure (.done (none,lo)) else do
 let o ←countRun' lo (size-lo)
 match o with
 |some m=>if m<minRun' size size 0 then(do
  liftM (rule "list.sort.binary-insertion")
  let b ←binarySort' lo (min (size-lo) (minRun' size size 0)) m
  if(!b)=true then pure (.done (some (),lo)) else mf size lo (min (size-lo) (minRun' size size 0))) else mf size lo m
 |none=>pure (.done (some (),lo))
def BP(p:Array (Nat×Nat×Nat)):Nat:=if(if p.size-2>0 then p[p.size-2-1]?.map (·.2.1) else none).any (· <(p[p.size-2+1]?.elim 0 (·.2.1))) then p.size-2-1 else p.size-2
def An(size:Nat):SM Unit:=do
 let c ←forIn [0:size] ((none:Option Unit),()) fun _ _=>do
  let s ←get
  if(pendingOf s).size≤1 then pure (.done (none,())) else do
   let b ←mergeAt' (BP (pendingOf s))
   if(!b)=true then pure (.done (some (),())) else pure (.yield (none,()))
 match c.1 with
 |some r=>pure r
 |none=>pure ()
theorem oQ(size lo n:Nat):mf size lo n=(do
 if let some (s1,n1,_):=(pendingOf (←get)).back? then
  let pw:=power' size (2*s1+n1) (2*s1+n1+n1+n) size
  let c ←forIn [0:size] ((none:Option Unit),()) fun _ _=>do
   let p:=pendingOf (←get)
   let some (_,_,older):=(if p.size>1 then p[p.size-2]? else none)|pure (.done (none,()))
   if older≤pw then pure (.done (none,())) else
    if !(←mergeAt' (p.size-2)) then pure (.done (some (),())) else pure (.yield (none,()))
  match c.1 with
  |some u=>return (.done (some u,lo))
  |none=>modify fun s=>setPending s ((pendingOf s).modify ((pendingOf s).size-1) fun(st,len,_)=>(st,len,pw))
 modify fun s=>setPending s ((pendingOf s).push (lo,n,0))
 return .yield (none,lo+n)):=by
 refine cP rfl fun s=> ?_
 cases (pendingOf s).back? with
 |none=>rfl
 |some r=>
  refine cP ?_ fun c=>by cases c.1<;>rfl
  unfold BN
  congr 1
  funext _ _
  refine cP rfl fun s=> ?_
  dsimp only
  generalize (if(pendingOf s).size>1 then(pendingOf s)[(pendingOf s).size-2]? else none)=z
  cases z<;>rfl
theorem Dl:sortRuns'=(do
 let s ←get
 let c ←forIn [0:(arrOf s).size] ((none:Option Unit),0) fun _ c=>t4 (arrOf s).size c.2
 match c.1 with
 |some r=>pure r
 |none=>An (arrOf s).size):=by
 rw[sortRuns'_eq]
 refine cP rfl fun s=> ?_
 dsimp only
 generalize (arrOf s).size=size
 refine cP ?_ fun c=> ?_
 · congr 1
   funext _ c
   unfold t4
   by_cases h:c.2≥size
   · rw[if_pos h,if_pos h]
   rw[if_neg h,if_neg h]
   refine cP rfl fun o=> ?_
   cases o with
   |none=>rfl
   |some m=>
    dsimp only
    split
    · refine cP rfl fun _=>cP rfl fun b=> ?_
      cases b with
      |false=>rfl
      |true=>
       rw[oQ]
       refine cP rfl fun s=> ?_
       cases (pendingOf s).back? with
       |none=>rfl
       |some r=>exact cP rfl fun c=>by cases c.1<;>rfl
    · rw[oQ]
      refine cP rfl fun s=> ?_
      cases (pendingOf s).back? with
      |none=>rfl
      |some r=>exact cP rfl fun c=>by cases c.1<;>rfl
 · cases c.1 with
   |some r=>rfl
   |none=>exact cP rfl fun c=>by cases c.1<;>rfl
section
variable{prog:Program}{w:World}{A:Around}{E:Value→Shared→Prop}{s:Shared}{κ:SortKind}{P:Keyed→Prop}{blt:Keyed→Keyed→Bool}{a₀:Array Keyed}
structure Sf(κ:SortKind)(blt:Keyed→Keyed→Bool)(a₀:Array Keyed)(lo:Nat)(L:Rns)(st:SortSt):Prop where
 k:kindOf st=κ
 f:failedOf st=none
 a:(arrOf st).toList.Perm a₀.toList
 p:pendingOf st=L.toArray
 r:Rn blt 0 L (arrOf st).toList
 t:tot L=lo
theorem Sf.mem{lo:Nat}{L:Rns}{st:SortSt}(S:Sf κ blt a₀ lo L st)(hp:∀x∈a₀.toList,P x):∀x∈(arrOf st).toList,P x:=fun x hx=>hp x (S.a.mem_iff.mp hx)
theorem Sf.size{lo:Nat}{L:Rns}{st:SortSt}(S:Sf κ blt a₀ lo L st):(arrOf st).size=a₀.size:=by simpa using S.a.length_eq
theorem BQ{L:Rns}{i:Nat}(h:i+1<L.length):∃L1 a b L2,L=L1++a::b::L2∧L1.length=i:=by
 refine⟨L.take i,L[i],L[i+1],L.drop (i+2), ?_,by simp;omega⟩
 rw[←List.drop_eq_getElem_cons h,←List.drop_eq_getElem_cons (by omega),List.take_append_drop]
theorem BR{xs:Array Keyed}{lo n:Nat}(u:Up blt xs lo n)(h:lo+n≤xs.size):Srt blt ((xs.toList.drop lo).take n):=by
 refine List.pairwise_iff_getElem.mpr fun i j hi hj hij=> ?_
 simp only[List.length_take,List.length_drop,Array.length_toList] at hi hj
 have:=u i j (by omega) (by omega)
 unfold g at this
 rw[getElem?_pos xs (lo+i) (by omega),getElem?_pos xs (lo+j) (by omega)] at this
 simpa using this
theorem Ao(an:Asks prog w A E s κ P blt)(hp:∀x∈a₀.toList,P x){lo i:Nat}{L:Rns}{st:SortSt}{Q:Bool→SortSt→Prop}(S:Sf κ blt a₀ lo L st)(hi:i+1<L.length)
 (h:∀L' st',Sf κ blt a₀ lo L' st'→L'.length+1=L.length→(arrOf st').toList.drop lo=(arrOf st).toList.drop lo→Q true st'):wpS (model prog w) A E s (mergeAt' i) Q st:=by
 obtain⟨L1,⟨sa,na,p⟩,⟨sb,nb,q⟩,L2,rfl,rfl⟩:=BQ hi
 refine tZ an S.k (S.mem hp) S.f S.p S.r fun st' hk hf hq ⟨h1,h2,h3,h4⟩=>h _ st' ⟨hk,hf,h1.trans S.a,hq,h2,h4.trans S.t⟩ (by simp;omega) ?_
 rw[S.t] at h3
 exact h3
theorem rM(f:Nat×Nat×Nat→Nat×Nat×Nat)(z:Nat×Nat×Nat):∀D:Rns,(D++[z]).modify D.length f=D++[f z]
 |[]=>rfl
 |d::D=>congrArg (d:: ·) (rM f z D)
theorem Dm{st:SortSt}{p:Array (Nat×Nat×Nat)}:pendingOf (setPending st p)=p:=rfl
theorem v7(an:Asks prog w A E s κ P blt)(hp:∀x∈a₀.toList,P x){lo n:Nat}{L:Rns}{st:SortSt}{Q:ForInStep SrC→SortSt→Prop}(n1:1≤n)(n2:lo+n≤a₀.size)(S:Sf κ blt a₀ lo L st)(sr:Srt blt (((arrOf st).toList.drop lo).take n))
 (h:∀L' st',Sf κ blt a₀ (lo+n) L' st'→Q (.yield (none,lo+n)) st'):wpS (model prog w) A E s (mf a₀.size lo n) Q st:=by
 have push:∀(L:Rns) (st2:SortSt),Sf κ blt a₀ lo L st2→Srt blt (((arrOf st2).toList.drop lo).take n)→wpS (model prog w) A E s (t0 lo n) Q st2:=fun L st2 S2 sr=>by
  refine wpS_bind (wpS_modify (wpS_pure (h (L++[(lo,n,0)]) _ ⟨S2.k,S2.f,S2.a, ?_,Rn.app.mpr ⟨S2.r, ?_⟩, ?_⟩)))
  · show (pendingOf st2).push _=_
    rw[S2.p]
    simp
  · rw[S2.t,Nat.zero_add]
    refine⟨rfl,n1, ?_,sr,trivial⟩
    show n≤(List.drop lo (arrOf st2).toList).length
    rw[List.length_drop,Array.length_toList,S2.size]
    omega
  · rw[lv,S2.t]
    rfl
 unfold mf
 refine wpS_bind (wpS_get ?_)
 cases eb:(pendingOf st).back? with
 |none=>exact push L st S sr
 |some r=>
  refine wpS_bind (wpS_mono (Q:=fun c st'=>c=(none,())∧∃L,Sf κ blt a₀ lo L st'∧(arrOf st').toList.drop lo=(arrOf st).toList.drop lo) ?_ ?_)
  · unfold BN
    refine wpS_forRange (I:=fun _ c st'=>c=(none,())∧∃L,Sf κ blt a₀ lo L st'∧(arrOf st').toList.drop lo=(arrOf st).toList.drop lo) ?_ (fun _ _ h=>h) ⟨rfl,L,S,rfl⟩
    rintro y c st3 _ _ ⟨rfl,L3,S3,d3⟩
    refine wpS_bind (wpS_get ?_)
    have e3:(pendingOf st3).size=L3.length:=by rw[S3.p];simp
    by_cases e4:(pendingOf st3).size>1
    · rw[if_pos e4]
      cases e5:(pendingOf st3)[(pendingOf st3).size-2]? with
      |none=>exact wpS_pure ⟨rfl,L3,S3,d3⟩
      |some z=>
       dsimp only
       split
       · exact wpS_pure ⟨rfl,L3,S3,d3⟩
       · exact wpS_bind (Ao an hp S3 (by rw[e3] at e4 ⊢;omega) fun L4 st4 S4 _ d4=>wpS_pure ⟨rfl,L4,S4,d4.trans d3⟩)
    · rw[if_neg e4]
      exact wpS_pure ⟨rfl,L3,S3,d3⟩
  · rintro c st3 ⟨rfl,L3,S3,d3⟩
    dsimp only
    have sr3:Srt blt (((arrOf st3).toList.drop lo).take n):=by rw[d3];exact sr
    refine wpS_bind (wpS_modify ?_)
    rcases List.eq_nil_or_concat L3 with rfl|⟨D,⟨s4,n4,p4⟩,rfl⟩
    · exact push [] _ ⟨S3.k,S3.f,S3.a,by rw[Dm,S3.p];rfl,S3.r,S3.t⟩ sr3
    · refine push (D++[(s4,n4,BO a₀.size n r)]) _ ⟨S3.k,S3.f,S3.a, ?_, ?_, ?_⟩ sr3
      · rw[Dm,S3.p]
        apply Array.ext'
        simp only[List.concat_eq_append,Array.toList_modify,List.size_toArray,List.length_append,List.length_singleton,Nat.add_sub_cancel]
        exact rM _ _ _
      · have:=S3.r
        rw[List.concat_eq_append] at this
        obtain⟨r1,r2⟩:=Rn.app.mp this
        exact Rn.app.mpr ⟨r1,r2⟩
      · have:=S3.t
        rw[List.concat_eq_append,lv] at this
        rw[lv]
        exact this
theorem rN(an:Asks prog w A E s κ P blt)(hp:∀x∈a₀.toList,P x){st:SortSt}{Q:Unit→SortSt→Prop}(S:Sf κ blt a₀ 0 [] st)
 (h:∀st',failedOf st'=none→(arrOf st').toList.Perm a₀.toList→Srt blt (arrOf st').toList→Q () st'):wpS (model prog w) A E s sortRuns' Q st:=by
 rw[Dl]
 refine wpS_bind (wpS_get ?_)
 rw[S.size]
 refine wpS_bind (wpS_mono (wpS_forRange (I:=fun x c st'=>∃lo L,c=(none,lo)∧Sf κ blt a₀ lo L st'∧lo≤a₀.size∧min x a₀.size≤lo) (Q:=fun c st'=>∃L,c=(none,a₀.size)∧Sf κ blt a₀ a₀.size L st') ?_ ?_ ⟨0,[],rfl,S,by omega,by omega⟩) ?_)
 · rintro x c st1 _ hx ⟨lo,L,rfl,S1,h1,h2⟩
   unfold t4
   dsimp only
   by_cases e1:lo≥a₀.size
   · rw[if_pos e1]
     have:lo=a₀.size:=by omega
     subst this
     exact wpS_pure ⟨L,rfl,S1⟩
   rw[if_neg e1]
   have go:∀(n:Nat) (st2:SortSt) (Q:ForInStep SrC→SortSt→Prop),1≤n→lo+n≤a₀.size→Kp lo st1 st2→Up blt (arrOf st2) lo n→(∀L' st',Sf κ blt a₀ (lo+n) L' st'→Q (.yield (none,lo+n)) st')→wpS (model prog w) A E s (mf a₀.size lo n) Q st2:=fun n st2 Q n1 n2 K u q=>by
    refine v7 an hp n1 n2 ⟨K.k.trans S1.k,K.f.trans S1.f,(Array.perm_iff_toList_perm.mp K.a).trans S1.a,K.p.trans S1.p,S1.r.pre ?_ ?_,S1.t⟩ (BR u (by rw[K.size,S1.size];exact n2)) q
    · rw[S1.t]
      apply List.ext_getElem?
      intro i
      rw[List.getElem?_take,List.getElem?_take]
      split
      · rename_i hi
        have:=K.o i hi
        rw[Array.getElem?_toList,Array.getElem?_toList]
        exact this.symm
      · rfl
    · rw[S1.t,Array.length_toList,K.size,S1.size];omega
   refine wpS_bind (Dj an S1.k (S1.mem hp) (by rw[S1.size];omega) (by omega) fun m st2 K m1 m2 u=> ?_)
   dsimp only
   by_cases e2:m<minRun' a₀.size a₀.size 0
   · rw[if_pos e2]
     refine wpS_bind (wpS_lift (wpAny_rule ⟨rfl,wpS_bind (Dk an (K.k.trans S1.k) (K.mem (S1.mem hp)) (by rw[K.size,S1.size];omega) m1 (by omega) u fun st3 K3 u3=> ?_)⟩))
     exact go _ st3 _ (by omega) (by omega) (K.trans K3) u3 fun L' st' S'=>⟨_,L',rfl,S',by omega,by omega⟩
   · rw[if_neg e2]
     exact go m st2 _ m1 (by omega) K u fun L' st' S'=>⟨_,L',rfl,S',by omega,by omega⟩
 · rintro c st1 ⟨lo,L,rfl,S1,h1,h2⟩
   have:lo=a₀.size:=by omega
   subst this
   exact⟨L,rfl,S1⟩
 · rintro c st1 ⟨L,rfl,S1⟩
   unfold An
   dsimp only
   have l1:=S1.r.len.2
   rw[S1.t] at l1
   refine wpS_bind (wpS_mono (wpS_forRange (I:=fun x c st'=>c=(none,())∧∃L,Sf κ blt a₀ a₀.size L st'∧L.length≤max 1 (a₀.size-x)) (Q:=fun c st'=>c=(none,())∧∃L,Sf κ blt a₀ a₀.size L st'∧L.length≤1) ?_ ?_ ⟨rfl,L,S1,by omega⟩) ?_)
   · rintro y c st3 _ hy ⟨rfl,L3,S3,l3⟩
     refine wpS_bind (wpS_get ?_)
     have e3:(pendingOf st3).size=L3.length:=by rw[S3.p];simp
     by_cases e4:(pendingOf st3).size≤1
     · rw[if_pos e4]
       exact wpS_pure ⟨rfl,L3,S3,by omega⟩
     rw[if_neg e4]
     refine wpS_bind (Ao an hp S3 ?_ fun L4 st4 S4 l4 d4=>wpS_pure ⟨rfl,L4,S4,by omega⟩)
     have:BP (pendingOf st3)≤(pendingOf st3).size-2:=by
      unfold BP
      generalize (if(pendingOf st3).size-2>0 then(pendingOf st3)[(pendingOf st3).size-2-1]?.map (·.2.1) else none)=z
      split<;>omega
     omega
   · rintro c st3 ⟨rfl,L3,S3,l3⟩
     exact⟨rfl,L3,S3,by omega⟩
   · rintro c st3 ⟨rfl,L3,S3,l3⟩
     refine wpS_pure (h st3 S3.f S3.a ?_)
     have hs:=S3.size
     match L3,S3,l3 with
     |[],S3,_=>
      have:a₀.size=0:=S3.t.symm
      have:(arrOf st3).toList=[]:=List.length_eq_zero_iff.mp (by rw[Array.length_toList];omega)
      rw[this]
      exact .nil
     |[r],S3,_=>
      have t:=S3.t
      have r1:=S3.r.2.2.2.1
      have e:r.2.1=a₀.size:=by simpa [tot] using t
      rw[e,List.take_of_length_le (by rw[Array.length_toList];omega)] at r1
      exact r1
end
end Tim
namespace Tim
open PySem PyProof.Rows
structure Cm(prog:Program)(w:World)(s:Shared)(a:Addr)(us:List Value)(κ:SortKind)(blt:Value→Value→Bool):Prop where
 kind:∀(A:Around) (E:Value→Shared→Prop) (h':Heap) (Q:SortKind→Shared→Prop),(∀b o,b≠a→s.heap.get? b=some o→h'.get? b=some o)→2≤us.length→Q κ {s with heap:=h'}→wpAny (model prog w) A (keyKind' us.toArray) Q E {s with heap:=h'}
 lt:∀(A:Around) (E:Value→Shared→Prop) (h':Heap) (x y:Value) (Q:Bool→Shared→Prop),(∀b o,b≠a→s.heap.get? b=some o→h'.get? b=some o)→x∈us→y∈us→Q (blt x y) {s with heap:=h'}→wpAny (model prog w) A (keyLt' κ x y) Q E {s with heap:=h'}
 asym:∀x y,blt x y=true→blt y x=false
 tr:∀x y z,blt y x=false→blt z y=false→blt z x=false
section
variable{prog:Program}{w:World}{A:Around}{E:Value→Shared→Prop}{s:Shared}{κ:SortKind}{blt:Value→Value→Bool}{a:Addr}{us:List Value}
theorem Cm.asks(C:Cm prog w s a us κ blt){h':Heap}(k:∀b o,b≠a→s.heap.get? b=some o→h'.get? b=some o):Asks prog w A E {s with heap:=h'} κ (fun x=>x.1∈us) (fun x y=>blt x.1 y.1) where
 ask x y st Q hx hy hk q:=by
  rw[lt'_eq]
  refine wpS_bind (wpS_get ?_)
  rw[hk]
  exact wpS_bind (wpS_lift (wpAny_attempt (C.lt A _ h' x.1 y.1 _ k hx hy ⟨rfl,wpS_pure q⟩)))
 asym x y:=C.asym x.1 y.1
 tr x y z:=C.tr x.1 y.1 z.1
theorem lw(us:List Value):(us.toArray.zip us.toArray).toList=us.map fun v=>(v,v):=by
 have:us.zip us=us.map fun v=>(v,v):=by
  induction us with
  |nil=>rfl
  |cons v r ih=>rw[List.zip_cons_cons,ih];rfl
 simpa using this
theorem oa{n:Nat}{R:PySem.Fin→Shared→Prop}(ho:s.heap.get? a=some (seqObj "list" us.toArray n))(hz:us.length≤sizeLine)(C:Cm prog w s a us κ blt)
 (h:∀ws:List Value,ws.Perm us→ws.Pairwise (fun x y=>blt y x=false)→R (.done (.ret .none)) {s with heap:=sortedHeap s.heap a us ws.toArray}):wpAny (model prog w) A (Builtin.«list.sort» ⟨[.ref a],[]⟩) R E s:=by
 have ha:a<s.heap.objs.size:=Heap.lt_size ho
 have hz2:us.toArray.size≤sizeLine:=by simpa using hz
 obtain⟨e1,o1⟩:∃e1,(s.heap.update a (Obj.mapSeq fun _=> #[])).get? a=some (seqObj "list" #[] e1):=⟨_,get?_update_seq ho fun _=> #[]⟩
 have n1:a≠(s.heap.update a (Obj.mapSeq fun _=> #[])).objs.size:=by rw[Heap.size_update];exact Nat.ne_of_lt ha
 have n2:a≠((s.heap.update a (Obj.mapSeq fun _=> #[])).push (seqObj "tuple" us.toArray 0)).objs.size:=by rw[size_push',Heap.size_update];exact Nat.ne_of_lt (Nat.lt_succ_of_lt ha)
 have o2:(((s.heap.update a (Obj.mapSeq fun _=> #[])).push (seqObj "tuple" us.toArray 0)).push (seqObj "list" #[] 0)).get? a=some (seqObj "list" #[] e1):=by
  rw[Heap.get?_push_ne _ _ _ n2,Heap.get?_push_ne _ _ _ n1,o1]
 have kp:∀b o,b≠a→s.heap.get? b=some o→(((s.heap.update a (Obj.mapSeq fun _=> #[])).push (seqObj "tuple" us.toArray 0)).push (seqObj "list" #[] 0)).get? b=some o:=fun b o hb e=>
  Heap.get?_push_of_some _ (Heap.get?_push_of_some _ (by rw[Heap.get?_update_ne _ _ _ _ hb];exact e))
 have fin:∀(st:SortSt) (E:Value→Shared→Prop),failedOf st=none→(arrOf st).toList.Perm (us.map fun v=>(v,v))→(arrOf st).toList.Pairwise (fun x y=>blt y.1 x.1=false)→
  wpAny (model prog w) A (do
   let touched:=(←seqEpoch a) != e1
   Builtin.List.listUpdate (.ref a) fun _=>(arrOf st).map (·.2)
   if let some e:=failedOf st then rule "list.sort.comparison-raised";throw e
   if touched then rule "list.sort.modified";raiseError "ValueError" "list modified during sort"
   ret .none) R E {s with heap:=((s.heap.update a (Obj.mapSeq fun _=> #[])).push (seqObj "tuple" us.toArray 0)).push (seqObj "list" #[] 0)}:=by
  intro st E hf hp hs
  have lm:((arrOf st).map (·.2)).size=us.length:=by rw[Array.size_map,←Array.length_toList,hp.length_eq,List.length_map]
  refine wpAny_bind (seqEpoch_at o2 rfl (wpAny_bind (listUpdate_at o2 rfl ?_ (Nat.zero_le _) (Nat.le_succ_of_le (by rw[lm];exact hz)))))
  rw[hf]
  simp only[bne_self_eq_false,Bool.false_eq_true,if_false]
  have same:∀x∈(arrOf st).toList,x.1=x.2:=fun x hx=>by
   obtain⟨v,_,rfl⟩:=List.mem_map.mp (hp.mem_iff.mp hx)
   rfl
  have:=h ((arrOf st).toList.map (·.2)) (by
   have:=hp.map (·.2)
   rw[List.map_map,show ((fun x:Keyed=>x.2)∘fun v=>(v,v))=id from rfl,List.map_id] at this
   exact this) (List.pairwise_map.mpr (List.Pairwise.imp_of_mem (fun {x y} hx hy q=>by rw[←same x hx,←same y hy];exact q) hs))
  refine wpAny_pure ?_
  have e:((arrOf st).toList.map (·.2)).toArray=(arrOf st).map (·.2):=by
   apply Array.ext'
   simp
  rw[e] at this
  exact this
 rw[list_sort_plain]
 refine wpAny_bind (listItems_at ho rfl (wpAny_bind (listUpdate_at ho rfl (wpAny_bind (seqEpoch_at o1 rfl (wpAny_bind (wpAny_newTuple (wpAny_bind (wpAny_newList (wpAny_holding ?_))))))) hz2 (Nat.zero_le _))))
 dsimp only
 by_cases h2:us.toArray.size<2
 · rw[if_pos h2,if_pos h2]
   refine wpAny_bind (wpAny_pure ?_)
   rw[StateT.run_pure]
   refine wpAny_bind (wpAny_pure (fin (SortSt.mk' general' (us.toArray.zip us.toArray) #[] 7 none) _ rfl ?_ ?_))
   · show (us.toArray.zip us.toArray).toList.Perm _
     rw[lw]
   · show (us.toArray.zip us.toArray).toList.Pairwise _
     rw[lw]
     match us,h2 with
     |[],_=>exact .nil
     |[v],_=>exact .cons (fun _ h=>by cases h) .nil
     |_::_::r,h2=>have:r.length+1+1<2:=h2;omega
 · rw[if_neg h2,if_neg h2]
   have h3:2≤us.length:=by simpa using h2
   refine wpAny_bind (C.kind A _ _ _ kp h3 ?_)
   have S:Sf κ (fun x y=>blt x.1 y.1) (us.toArray.zip us.toArray) 0 [] (SortSt.mk' κ (us.toArray.zip us.toArray) #[] 7 none):=⟨rfl,rfl, .refl _,rfl,trivial,rfl⟩
   refine wpAny_bind (wpAny_mono (rN (C.asks kp) (fun x hx=>by
    rw[lw] at hx
    obtain⟨v,hv,rfl⟩:=List.mem_map.mp hx
    exact hv) S (Q:=fun _ st=>failedOf st=none∧(arrOf st).toList.Perm (us.map fun v=>(v,v))∧(arrOf st).toList.Pairwise (fun x y=>blt y.1 x.1=false)) fun st q1 q2 q3=>⟨q1,by rw[←lw];exact q2,q3⟩) ?_ fun _ _ e=>e)
   rintro⟨⟨⟩,st⟩ s' ⟨rfl,q1,q2,q3⟩
   exact fin st _ q1 q2 q3
theorem mG{R:PySem.Fin→Shared→Prop}(hz:us.length≤sizeLine)(C:Cm prog w {s with heap:=s.heap.push (seqObj "list" us.toArray 0)} s.heap.objs.size us κ blt)
 (h:∀(ws:List Value) (h':Heap) (e:Nat),ws.Perm us→ws.Pairwise (fun x y=>blt y x=false)→(∀b o,s.heap.get? b=some o→h'.get? b=some o)→h'.get? s.heap.objs.size=some (seqObj "list" ws.toArray e)→R (.done (.ret (.ref s.heap.objs.size))) {s with heap:=h'}):
 wpAny (model prog w) A (do
  let l ←newList us
  let _ ←holding [l] (call (.builtin "list.sort") [l] [])
  ret l) R E s:=by
 refine wpAny_bind (wpAny_newList ?_)
 have o1:(s.heap.push (seqObj "list" us.toArray 0)).get? s.heap.objs.size=some (seqObj "list" us.toArray 0):=Heap.get?_push_size _ rfl
 refine wpAny_bind (wpAny_holding (wpAny_call_entry slot_list_sort ⟨_,o1,rfl⟩ entry_list_sort (oa (s:={s with heap:=s.heap.push (seqObj "list" us.toArray 0)}) o1 hz C fun ws p1 p2=>⟨_,rfl, ?_⟩) (args_list_sort _)))
 obtain⟨e,he⟩:=sortedHeap_at (out:=ws.toArray) o1
 refine wpAny_pure (h ws _ e p1 p2 (fun b o hb=> ?_) he)
 have hl:=Heap.lt_size hb
 show (sortedHeap (s.heap.push (seqObj "list" us.toArray 0)) s.heap.objs.size us ws.toArray).get? b=some o
 rw[sortedHeap_old (Nat.ne_of_lt hl) (by rw[size_push'];exact Nat.lt_succ_of_lt hl)]
 exact Heap.get?_push_of_some _ hb
end
end Tim
namespace Tim
open PySem PyProof.Rows PySem.W
def zf(x y:Value):Bool:=decide (numOf x<numOf y)
def kM(h:Heap):Value→Int×Int
 | .ref a=>match h.get? a with
   |some o=>match o.data with
    | .seq xs _=>(numOf (xs.getD 0 .none),numOf (xs.getD 1 .none))
    |_=>(0,0)
   |none=>(0,0)
 |_=>(0,0)
def ltP(p q:Int×Int):Bool:=if p.1=q.1 then decide (p.2<q.2) else decide (p.1<q.1)
theorem vd{p q:Int×Int}:ltP p q=true↔p.1<q.1∨(p.1=q.1∧p.2<q.2):=by
 unfold ltP
 split
 · simp;omega
 · simp;omega
theorem ltP_no{p q:Int×Int}:ltP p q=false↔¬(p.1<q.1∨(p.1=q.1∧p.2<q.2)):=by
 rw[←vd,Bool.not_eq_true]
theorem rO{M:Model}{h:Heap}{i:Int}{t:Tok}:Looks M h (typeOf (.int i t)) (.type "int"):= .now
theorem zg{prog:Program}{w:World}{s:Shared}{a:Addr}{us:List Value}(hi:∀u∈us,∃i t,u= .int i t):Cm prog w s a us oneType' zf where
 kind A E h' Q _ h2 q:=kas_kind (T:= .type "int") (by simpa using h2) (fun v hv=>by
  obtain⟨i,t,rfl⟩:=hi v hv
  exact rO) rfl rfl q
 lt A E h' x y Q _ hx hy q:=by
  obtain⟨i,t,rfl⟩:=hi x hx
  obtain⟨j,u,rfl⟩:=hi y hy
  exact kat_lt_int q
 asym x y h:=by
  unfold zf at h ⊢
  simp at h ⊢
  omega
 tr x y z h1 h2:=by
  unfold zf at h1 h2 ⊢
  simp at h1 h2 ⊢
  omega
def IsPr(h:Heap)(u:Value)(p:Int×Int):Prop:=∃(b:Addr) (o:Obj) (t t':Tok) (n:Nat),u= .ref b∧h.get? b=some o∧o.cls= .type "tuple"∧o.data= .seq #[.int p.1 t, .int p.2 t'] n
theorem IsPr.at{h:Heap}{u:Value}{p:Int×Int}(q:IsPr h u p):kM h u=p:=by
 obtain⟨b,o,t,t',n,rfl,e,_,ed⟩:=q
 unfold kM
 dsimp only
 rw[e]
 dsimp only
 rw[ed]
 rfl
theorem IsPr.on{h h':Heap}{a:Addr}{u:Value}{p:Int×Int}(q:IsPr h u p)(k:∀b o,b≠a→h.get? b=some o→h'.get? b=some o)(ha:∀o,h.get? a=some o→o.cls≠ .type "tuple"):IsPr h' u p:=by
 obtain⟨b,o,t,t',n,rfl,e,ec,ed⟩:=q
 exact⟨b,o,t,t',n,rfl,k b o (fun z=>ha o (z▸e) ec) e,ec,ed⟩
theorem ve{h:Heap}:∀{us:List Value},(∀u∈us,∃p,IsPr h u p)→∃fs,KatTups h us fs∧fs.length=us.length∧∀v∈fs,∃i t,v= .int i t
 |[],_=>⟨[], .nil,rfl,fun _ h=>by cases h⟩
 |u::us,q=>by
  obtain⟨fs,k,hl,hf⟩:=ve (us:=us) fun v hv=>q v (List.mem_cons_of_mem _ hv)
  obtain⟨p,b,o,t,t',n,rfl,e,ec,ed⟩:=q u List.mem_cons_self
  refine⟨.int p.1 t::fs, .cons e ec ed rfl k,congrArg Nat.succ hl,fun v hv=> ?_⟩
  rcases List.mem_cons.mp hv with rfl|hv
  · exact⟨_,_,rfl⟩
  · exact hf v hv
theorem xy{prog:Program}{w:World}{s:Shared}{a:Addr}{us:List Value}(hi:∀u∈us,∃p,IsPr s.heap u p)(ha:∀o,s.heap.get? a=some o→o.cls≠ .type "tuple"):Cm prog w s a us (tuples' (Value.type "int" != Value.type "tuple")) (fun x y=>ltP (kM s.heap x) (kM s.heap y)) where
 kind A E h' Q k h2 q:=by
  obtain⟨fs,kt,hl,hf⟩:=ve (h:=h') fun u hu=>let⟨p,hp⟩:=hi u hu;⟨p,hp.on k ha⟩
  exact kat_kind (s:={s with heap:=h'}) (T:= .type "int") kt (by omega) (fun v hv=>by
   obtain⟨i,t,rfl⟩:=hf v hv
   exact rO) rfl q
 lt A E h' x y Q k hx hy q:=by
  obtain⟨p,hp⟩:=hi x hx
  obtain⟨r,hr⟩:=hi y hy
  rw[hp.at,hr.at] at q
  obtain⟨b,o,t,t',n,rfl,e,ec,ed⟩:=hp.on k ha
  obtain⟨b2,o2,t2,t2',n2,rfl,e2,ec2,ed2⟩:=hr.on k ha
  refine kat_lt (s:={s with heap:=h'}) e ed e2 ed2 (kat_cons (wpAny_eqBool_int ?_))
  have q0:Q (if p.1=r.1 then decide (p.2<r.2) else decide (p.1<r.1)) {s with heap:=h'}:=q
  by_cases c:p.1=r.1
  · rw[if_pos c] at q0
    rw[show (p.1==r.1)=true from by simpa using c]
    refine kat_yes (kat_cons (wpAny_eqBool_int ?_))
    by_cases c2:p.2=r.2
    · rw[show (p.2==r.2)=true from by simpa using c2]
      refine kat_yes (kat_nil ?_)
      rw[show decide (p.2<r.2)=false from by simp;omega] at q0
      exact q0
    · rw[show (p.2==r.2)=false from by simpa using c2]
      exact kat_no (kat_one _ _ (wpAny_lt_int q0))
  · rw[if_neg c] at q0
    rw[show (p.1==r.1)=false from by simpa using c]
    exact kat_no (oneLt_int q0)
 asym x y h:=by rw[vd] at h;rw[ltP_no];omega
 tr x y z h1 h2:=by rw[ltP_no] at h1 h2 ⊢;omega
end Tim
namespace L2
open PySem PySem.Spec PyProof.Rows Tim
def PrV(H:Hp):List V→List (Int×Int)→Prop:=Paired fun v p=>∃b,v= .ref b∧H b=some (.tup [.int p.1, .int p.2])
abbrev leP(p q:Int×Int):Prop:=ltP q p=false
def Ap(K:W.Frag):List V→Hp→VK→Prop:=fun xs H Q=>∃a,xs=[.ref a]∧
 ((∃ns:List Int,(SqL K H a (ns.map V.int)∨∃kvs:List (Key×V),H a=some (.dK kvs)∧kvs.map (·.1)=ns.map Sum.inl)∧∀l (ms:List Int),H l=none→ms.Perm ns→ms.Pairwise (· ≤ ·)→Q (.ref l) (upd H l (.lst (ms.map V.int))))∨
  ∃vs ps,SqL K H a vs∧PrV H vs ps∧∀l us qs,H l=none→qs.Perm ps→qs.Pairwise leP→PrV H us qs→Q (.ref l) (upd H l (.lst us)))
theorem mh:∀{ns:List Int} {us:List Value},Vals (ns.map V.int) us→us.map numOf=ns∧∀u∈us,∃i t,u= .int i t
 |[],_, .nil=>⟨rfl,fun _ h=>by cases h⟩
 |n::ns,_, .cons h t=>by
  obtain⟨a,b⟩:=mh (ns:=ns) t
  obtain⟨k,rfl⟩:=h
  refine⟨by rw[List.map_cons,a];rfl,fun u hu=> ?_⟩
  rcases List.mem_cons.mp hu with rfl|hu
  · exact⟨_,_,rfl⟩
  · exact b u hu
theorem oR:∀{us:List Value},(∀u∈us,∃i t,u= .int i t)→Vals ((us.map numOf).map V.int) us
 |[],_=> .nil
 |u::us,h=>by
  obtain⟨i,t,rfl⟩:=h u List.mem_cons_self
  exact .cons ⟨t,rfl⟩ (oR fun v hv=>h v (List.mem_cons_of_mem _ hv))
theorem rP{prog:Program}{w:World}{A:Around}{E:Value→Shared→Prop}{s:Shared}{T:String}{r d:Addr}{n:Nat}{P:Nat→Value→Prop}{OK:Heap→Prop}{R:List Value→Shared→Prop}(K:W.KdlSrc prog w T r d n P OK)(hh:A.handled=none)(hok:OK s.heap)(hn:n≤sizeLine)
 (h:∀(h':Heap) (tk:Nat) (acc:Array Value),(∀b o,s.heap.get? b=some o→h'.get? b=some o)→s.heap.objs.size≤h'.objs.size→ItemsOf P acc n→R acc.toList {s with heap:=h',toks:=tk}):wpAny (model prog w) A (collect (.ref r)) R E s:=by
 have lt:=K.there _ hok
 unfold collect
 refine wpAny_bind (wpAny_runValue (codeAny_builtin entry_proto_collect' ?_))
 rw[Around.under_plainId PySem.F.plain_proto_collect _]
 refine wpAny_bind (m:=newList []) (wpAny_newObj_type (wpAny_pure ⟨plainId_quiet PySem.F.plain_list_iadd _,codeAny_builtin entry_list_iadd' ?_⟩))
 rw[Around.under_plainId PySem.F.plain_list_iadd _]
 have o1:(s.heap.push {cls:= .type "list",data:= .seq ([]:List Value).toArray}).get? s.heap.objs.size=some {cls:= .type "list",data:= .seq #[]}:=Heap.get?_push_size _ rfl
 have ke:=W.kdl_extend (A:=A) (s:={s with heap:=s.heap.push {cls:= .type "list",data:= .seq ([]:List Value).toArray}}) (R:=fun q s'=>∃h' tk acc c,q= .ok (.ret (.ref s.heap.objs.size))∧s'={s with heap:=h',toks:=tk}∧(∀b o,s.heap.get? b=some o→h'.get? b=some o)∧h'.get? s.heap.objs.size=some {cls:= .type "list",dict:=none,data:= .seq acc c,slots:= #[]}∧ItemsOf P acc n)
  K hh (K.keep _ _ hok fun b _ o e=>Heap.get?_push_of_some _ e) s.heap.objs.size (Nat.ne_of_gt lt.1) (Nat.ne_of_gt lt.2) (.ref s.heap.objs.size) 0 o1 (fun h' tk acc c hk hS ha=>⟨h',tk,acc,c,rfl,rfl,fun b o e=>hk b o (Nat.ne_of_lt (Heap.lt_size e)) (Heap.get?_push_of_some _ e),hS,ha⟩) hn
 refine wpAny_mono ke (fun fin s' x=> ?_) fun e s' x=>by obtain⟨_,_,_,_,e,_⟩:=x;cases e
 cases fin with
 |done f=>
  obtain⟨h',tk,acc,c,e,rfl,hk,hS,ha⟩:=x
  cases e
  exact wpAny_bind (m:=load _) (wpAny_load hS (wpAny_pure (h h' tk acc hk (Nat.le_of_lt (Heap.lt_size hS)) ha)))
 |again c=>
  refine⟨x.1,codeAny_mono x.2 fun q s2 y=> ?_⟩
  obtain⟨h',tk,acc,c,rfl,rfl,hk,hS,ha⟩:=y
  exact wpAny_bind (m:=load _) (wpAny_load hS (wpAny_pure (h h' tk acc hk (Nat.le_of_lt (Heap.lt_size hS)) ha)))
theorem rQ{prog:Program}{w:World}{A:Around}{E:Value→Shared→Prop}{s:Shared}{v:Value}{Q:Value→Shared→Prop}(h:wpAny (model prog w) A.in1 (collect v) (fun us s'=>wpAny (model prog w) A.in1 (do
 let l ←newList us
 let _ ←holding [l] (call (.builtin "list.sort") [l] [])
 ret l) (fun f s'=>∃u,f= .done (.ret u)∧Q u s') E s') E s):wpAny (model prog w) A (call (.builtin "sorted") [v]) Q E s:=by
 refine Calls.call_function_entry kind_sorted plain_sorted entry_sorted (args_sorted1 _) ?_
 unfold Builtin.«sorted»
 exact wpAny_bind (m:=checkCount "sorted" 1 1 _) (wpAny_pure (wpAny_bind h))
section
variable{X:Cx}
theorem Do{P:Program}{w:World}{H:Hp}{h:Heap}(hok:HOk P w H h){b:Addr}{p:Int×Int}(e:H b=some (.tup [.int p.1, .int p.2])):IsPr h (.ref b) p:=by
 obtain⟨_,its,r,ht⟩:=(show ObjOk P w H h b (.tup [.int p.1, .int p.2]) from hok b _ e)
 obtain⟨u,v,rfl,⟨t,rfl⟩,⟨t',rfl⟩⟩:=Vals.two r
 obtain⟨o,eo,ec,n,ed⟩:=ht
 exact⟨b,o,t,t',n,rfl,eo,ec,ed⟩
theorem xz{P:Program}{w:World}{H:Hp}{h:Heap}(hok:HOk P w H h):∀{vs:List V} {ps:List (Int×Int)} {us:List Value},PrV H vs ps→Vals vs us→us.map (kM h)=ps∧∀u∈us,∃b,u= .ref b∧H b=some (.tup [.int (kM h u).1, .int (kM h u).2])∧IsPr h u (kM h u)
 |_,_,_, .nil, .nil=>⟨rfl,fun _ h=>by cases h⟩
 |_,_,_, .cons a r, .cons c t=>by
  obtain⟨e1,e2⟩:=xz hok r t
  obtain⟨b,rfl,hb⟩:=a
  cases c
  have:=Do hok hb
  refine⟨by rw[List.map_cons,e1,this.at],fun u hu=> ?_⟩
  rcases List.mem_cons.mp hu with rfl|hu
  · exact⟨b,rfl,by rw[this.at];exact hb,by rw[this.at];exact this⟩
  · exact e2 u hu
theorem rR{H:Hp}{h:Heap}:∀{ws:List Value},(∀u∈ws,∃b,u= .ref b∧H b=some (.tup [.int (kM h u).1, .int (kM h u).2]))→∃vs:List V,Vals vs ws∧PrV H vs (ws.map (kM h))
 |[],_=>⟨[], .nil, .nil⟩
 |u::ws,q=>by
  obtain⟨vs,a,c⟩:=rR (ws:=ws) fun v hv=>q v (List.mem_cons_of_mem _ hv)
  obtain⟨b,rfl,e⟩:=q u List.mem_cons_self
  exact⟨.ref b::vs, .cons rfl a, .cons ⟨b,rfl,e⟩ c⟩
theorem rS{P:Program}{w:World}:∀{el:List DictEntry} {vs:List (Key×Value)} {ns:List Int},Pairs (cB P w) el vs→vs.map (·.1)=ns.map Sum.inl→∀(j:Nat) (e:DictEntry) (n:Int),el[j]? =some e→ns[j]? =some n→∃t,e.key= .int n t
 |_,_,_, .nil,_=>fun j e n h1=>by simp at h1
 |_,_,[], .cons _ _ _,h=>by cases h
 |_,_,n0::ns, .cons h1 h2 h3,h=>fun j e n hj hn=>by
  obtain⟨k1,k2⟩:=List.cons.inj h
  dsimp only at k1
  cases j with
  |zero=>
   cases hj
   cases hn
   rw[k1,sQ] at h1
   rcases ck h1 with⟨i,t,z1,z2⟩|⟨x,t,z1,z2⟩
   · cases z1
     exact⟨t,z2⟩
   · cases z1
  |succ j=>exact rS h3 k2 j e n (by simpa using hj) (by simpa using hn)
theorem ly:bootBuiltins "sorted"=some (.builtin "sorted"):=boot_sorted
theorem iH(hc:X.calm=true):CallR X (.builtin "sorted") (Ap X.K):=by
 intro pins s σ H xs us Q I r h
 obtain⟨a,rfl,h⟩:=h
 obtain⟨u,rfl,rx⟩:=qS r
 cases rx
 refine rQ ?_
 have fin:∀(s':Shared) (ws:List Value) (h':Heap) (e tk:Nat) (vs:List V),(∀b o,s.heap.get? b=some o→s'.heap.get? b=some o)→s.heap.objs.size≤s'.heap.objs.size→(∀b o,s'.heap.get? b=some o→h'.get? b=some o)→h'.get? s'.heap.objs.size=some (seqObj "list" ws.toArray e)→Vals vs ws→ws.length≤sizeLine→Q (.ref s'.heap.objs.size) (upd H s'.heap.objs.size (.lst vs))→EP X pins σ Q (.ref s'.heap.objs.size) {s with heap:=h',toks:=tk}:=fun s' ws h' e tk vs k1 k2 k3 he r hz q=>
  ⟨.ref s'.heap.objs.size,_,I.laid (t':=tk) (fun b o hb=>k3 b o (k1 b o hb)) k2 (show ObjOk X.prog X.w _ h' _ (.lst vs) from⟨by rw[r.length];exact hz,ws,e,r,he⟩),rfl,q⟩
 have go:∀(us:List Value) (ns:List Int) (h1:Heap) (tk:Nat),us.map numOf=ns→(∀u∈us,∃i t,u= .int i t)→us.length≤sizeLine→(∀b o,s.heap.get? b=some o→h1.get? b=some o)→s.heap.objs.size≤h1.objs.size→(∀l (ms:List Int),H l=none→ms.Perm ns→ms.Pairwise (· ≤ ·)→Q (.ref l) (upd H l (.lst (ms.map V.int))))→wpAny (model X.prog X.w) X.A.in1 (do
  let l ←newList us
  let _ ←holding [l] (call (.builtin "list.sort") [l] [])
  ret l) (fun f s'=>∃u,f= .done (.ret u)∧EP X pins σ Q u s') X.xe {s with heap:=h1,toks:=tk}:=fun us ns h1 tk en hu hz k1 k2 q=>by
  refine mG (s:={s with heap:=h1,toks:=tk}) hz (zg hu) fun ws h' e p1 p2 k3 he=>⟨_,rfl,fin {s with heap:=h1,toks:=tk} ws h' e tk ((ws.map numOf).map V.int) k1 k2 k3 he (oR fun v hv=>hu v (p1.mem_iff.mp hv)) (by rw[p1.length_eq];exact hz) (q _ _ (I.hok.fresh k2) (by rw[←en];exact p1.map _) (List.pairwise_map.mpr (p2.imp fun {x y} z=> ?_)))⟩
  unfold zf at z
  simp at z
  exact z
 rcases h with⟨ns,(hl|⟨kvs,hd,hk⟩),q⟩|⟨vs,ps,hl,hp,q⟩
 · obtain⟨its,rv,pl,hz⟩:=I.list hl
   have hz2:its.length≤sizeLine:=by rw[←rv.length];exact hz
   obtain⟨e1,e2⟩:=mh rv
   exact collect_list pl.isList (go its ns _ s.toks e1 e2 hz2 (fun b o e=>by rw[Heap.get?_update_ne _ _ _ _ (Nat.ne_of_lt (Heap.lt_size e))];exact Heap.get?_push_of_some _ e) (by rw[Heap.size_update,size_push'];exact Nat.le_succ _) q) hz2
 · obtain⟨hz,no,vs,rel,o,es,ep,ho,hx,hdd,_,hpr,_⟩:=(show ObjOk X.prog X.w H s.heap a (.dK kvs) from I.hok a _ hd)
   have l1:=Paired.length rel
   have l2:=hpr.length
   have keys:vs.map (·.1)=ns.map Sum.inl:=by rw[←hk,KV.keys rel]
   refine rP (Bt (es:=es) (ep:=ep) no) (I.ok.hd hc) ⟨o,ho,hx,hdd⟩ (by rw[←Array.length_toList,l2,←l1];exact hz) fun h1 tk acc k1 k2 hacc=> ?_
   obtain⟨m1,m2⟩:=hacc
   have la:acc.toList.length=ns.length:=by
    rw[Array.length_toList,m1,←Array.length_toList,l2]
    have:=congrArg List.length keys
    simpa using this
   have ent:=rS hpr keys
   have vv:Vals (ns.map V.int) acc.toList:=by
    refine uK (by rw[List.length_map,la]) fun j v u hv hu=> ?_
    rw[List.getElem?_map] at hv
    obtain⟨n,hn,rfl⟩:=Option.map_eq_some_iff.mp hv
    obtain⟨e,e1,rfl⟩:=m2 j u (by rw[←Array.getElem?_toList];exact hu)
    exact ent j e n (by rw[Array.getElem?_toList];exact e1) hn
   obtain⟨e1,e2⟩:=mh vv
   exact go acc.toList ns h1 tk e1 e2 (by rw[la,←List.length_map (f:=Sum.inl (β:=Str)),←hk,List.length_map];exact hz) k1 k2 q
 · obtain⟨its,rv,pl,hz⟩:=I.list hl
   have hz2:its.length≤sizeLine:=by rw[←rv.length];exact hz
   obtain⟨e1,e2⟩:=xz I.hok hp rv
   have k1:∀b o,s.heap.get? b=some o→((s.heap.push (seqObj "list" #[] 0)).update s.heap.objs.size (Obj.mapSeq (· ++its.toArray))).get? b=some o:=fun b o e=>by
    rw[Heap.get?_update_ne _ _ _ _ (Nat.ne_of_lt (Heap.lt_size e))];exact Heap.get?_push_of_some _ e
   have k2:s.heap.objs.size≤((s.heap.push (seqObj "list" #[] 0)).update s.heap.objs.size (Obj.mapSeq (· ++its.toArray))).objs.size:=by rw[Heap.size_update,size_push'];exact Nat.le_succ _
   refine collect_list pl.isList ?_ hz2
   generalize hh1:(s.heap.push (seqObj "list" #[] 0)).update s.heap.objs.size (Obj.mapSeq (· ++its.toArray))=h1 at k1 k2 ⊢
   have on:∀{h2:Heap} {u:Value},u∈its→(∀b o,h1.get? b=some o→h2.get? b=some o)→IsPr h2 u (kM s.heap u):=fun hu k=>by
    obtain⟨b,_,_,q⟩:=e2 _ hu
    obtain⟨b,o,t,t',n,e3,e4,e5,e6⟩:=q
    exact⟨b,o,t,t',n,e3,k _ _ (k1 _ _ e4),e5,e6⟩
   have eq:∀u∈its,kM (h1.push (seqObj "list" its.toArray 0)) u=kM s.heap u:=fun u hu=>(on hu fun b o e=>Heap.get?_push_of_some _ e).at
   refine mG (s:={s with heap:=h1}) hz2 (xy (s:={s with heap:=h1.push (seqObj "list" its.toArray 0)}) (fun u hu=>⟨_,on hu fun b o e=>Heap.get?_push_of_some _ e⟩) (fun o e=>by
    rw[Heap.get?_push_size _ rfl] at e
    cases e
    exact fun z=>absurd (Value.type.inj z) (by decide))) fun ws h' e p1 p2 k3 he=> ?_
   obtain⟨vs',r',pv⟩:=rR (H:=H) (h:=s.heap) (ws:=ws) fun u hu=>by
    obtain⟨b,a1,a2,_⟩:=e2 u (p1.mem_iff.mp hu)
    exact⟨b,a1,a2⟩
   refine⟨_,rfl,fin {s with heap:=h1} ws h' e s.toks vs' k1 k2 k3 he r' (by rw[p1.length_eq];exact hz2) (q _ _ (ws.map (kM s.heap)) (I.hok.fresh k2) (by rw[←e1];exact p1.map _) (List.pairwise_map.mpr (List.Pairwise.imp_of_mem (fun {x y} hx hy z=> ?_) p2)) pv)⟩
   rw[eq x (p1.mem_iff.mp hx),eq y (p1.mem_iff.mp hy)] at z
   exact z
end
end L2
namespace PD
open PySem L2 Tim
def vf:List D→Option (List Int)
 |[]=>some []
 | .int i::r=>(vf r).map (i:: ·)
 |_=>none
def t6:List D→Option (List (Int×Int))
 |[]=>some []
 | .tup [.int i, .int j]::r=>(t6 r).map ((i,j):: ·)
 |_=>none
def nu:List Key→Option (List Int)
 |[]=>some []
 | .inl i::r=>(nu r).map (i:: ·)
 |_=>none
def sI(ns:List Int):List Int:=ns.mergeSort fun a b=>decide (a≤b)
def sP(ps:List (Int×Int)):List (Int×Int):=ps.mergeSort fun p q=> !ltP q p
def prD(p:Int×Int):D:= .tup [.int p.1, .int p.2]
def nv(ds:List D):Option D:=match vf ds with
 |some ns=>some (.lst ((sI ns).map .int))
 |none=>(t6 ds).map fun ps=> .lst ((sP ps).map prD)
def rT:List D→Option D
 |[.lst ds]=>nv ds
 |[.dk ks _]=>(nu ks).map fun ns=> .lst ((sI ns).map .int)
 |_=>none
theorem Aq{ms ns:List Int}(p:ms.Perm ns)(q:ms.Pairwise (· ≤ ·)):ms=sI ns:=by
 refine List.Perm.eq_of_pairwise (le:=(· ≤ ·)) (fun a b _ _ h1 h2=>Int.le_antisymm h1 h2) q ?_ (p.trans (List.mergeSort_perm _ _).symm)
 have:=List.pairwise_mergeSort (le:=fun a b:Int=>decide (a≤b)) (fun a b c h1 h2=>by simp at*;omega) (fun a b=>by simp;omega) ns
 exact this.imp fun h=>by simpa using h
theorem pW(ns:List Int):(sI ns).Perm ns:=List.mergeSort_perm _ _
theorem BS(ns:List Int):(sI ns).Pairwise (· ≤ ·):=by
 have:=List.pairwise_mergeSort (le:=fun a b:Int=>decide (a≤b)) (fun a b c h1 h2=>by simp at*;omega) (fun a b=>by simp;omega) ns
 exact this.imp fun h=>by simpa using h
theorem pX(ps:List (Int×Int)):(sP ps).Perm ps:=List.mergeSort_perm _ _
theorem xA(ps:List (Int×Int)):(sP ps).Pairwise leP:=by
 have:=List.pairwise_mergeSort (le:=fun p q:Int×Int=> !ltP q p) (fun a b c h1 h2=>by
  simp only[Bool.not_eq_true',ltP_no] at*;omega) (fun a b=>by
  simp only[Bool.or_eq_true,Bool.not_eq_true',ltP_no];omega) ps
 exact this.imp fun h=>by simpa using h
theorem Dp{ms ps:List (Int×Int)}(p:ms.Perm ps)(q:ms.Pairwise leP):ms=sP ps:=
 List.Perm.eq_of_pairwise (le:=leP) (fun a b _ _ h1 h2=>by
  have h1:=ltP_no.mp h1
  have h2:=ltP_no.mp h2
  exact Prod.ext (by omega) (by omega)) q (xA ps) (p.trans (pX ps).symm)
section
variable{K:W.Frag}{ns:List Str}{L:Addr→Prop}{H:Hp}
theorem rV:∀{ds:List D} {vs:List V} {is:List Int},Rds K ns L H vs ds→vf ds=some is→vs=is.map V.int
 |[],_,_,r,e=>by
  cases r
  cases e
  rfl
 |d::ds,_,_, .cons h t,e=>by
  cases d<;>try (cases e;done)
  obtain⟨js,ej,rfl⟩:=Option.map_eq_some_iff.mp e
  cases h
  rw[rV t ej]
  rfl
theorem pY:∀(is:List Int),Rds K ns L H (is.map V.int) (is.map .int)
 |[]=> .nil
 |i::is=> .cons (.int i) (pY is)
theorem vg:∀{ds:List D} {vs:List V} {ps:List (Int×Int)},Rds K ns L H vs ds→t6 ds=some ps→PrV H vs ps
 |[],_,_,r,e=>by
  cases r
  cases e
  exact .nil
 |d::ds,_,_, .cons h t,e=>by
  unfold t6 at e
  split at e
  · rename_i h0
    cases h0
  · rename_i i j r h0
    cases h0
    obtain⟨js,ej,rfl⟩:=Option.map_eq_some_iff.mp e
    obtain⟨a,vs,rfl,ha,rr⟩:=h.tupI
    cases rr with
    |cons x1 x2=>
     cases x1
     cases x2 with
     |cons y1 y2=>
      cases y1
      cases y2
      exact .cons ⟨a,rfl,ha⟩ (vg t ej)
  · cases e
theorem xB{L:Addr→Prop}{H':Hp}(S:Same H H'):∀{vs:List V} {ps:List (Int×Int)},PrV H vs ps→Rds K ns L H' vs (ps.map prD)
 |_,_, .nil=> .nil
 |_,_, .cons a t=>by
  obtain⟨b,rfl,e⟩:=a
  exact .cons (.tup (S _ _ e) (.cons (.int _) (.cons (.int _) .nil))) (xB S t)
theorem oT:∀{ks:List Key} {is:List Int},nu ks=some is→ks=is.map Sum.inl
 |[],_,e=>by cases e;rfl
 | .inl i::ks,_,e=>by
   obtain⟨js,ej,rfl⟩:=Option.map_eq_some_iff.mp e
   rw[oT ej]
   rfl
 | .inr _::_,_,e=>by cases e
theorem rW:CaF K ns (Ap K) rT:=by
 intro L H xs as d Q r hf k
 cases r with
 |nil=>cases hf
 |cons h t=>
  cases t with
  |cons _ _=>cases h<;>cases hf
  |nil=>
   cases h with
   | @lst a vs ds l e r=>
     have hf:nv ds=some d:=hf
     unfold nv at hf
     cases ei:vf ds with
     |some is=>
      rw[ei] at hf
      cases hf
      have:=rV r ei
      subst this
      refine⟨a,rfl, .inl ⟨is, .inl (SqL.of e),fun p ms hp h1 h2=> ?_⟩⟩
      rw[Aq h1 h2]
      exact k p _ _ _ rfl (aV hp _) hp aX (pY _)
     |none=>
      rw[ei] at hf
      obtain⟨ps,ep,rfl⟩:=Option.map_eq_some_iff.mp hf
      refine⟨a,rfl, .inr ⟨vs,ps,SqL.of e,vg r ep,fun p us qs hp h1 h2 h3=> ?_⟩⟩
      rw[Dp h1 h2] at h3
      exact k p _ _ _ rfl (aV hp _) hp aX (xB (aV hp _) h3)
   | @dk a kvs ds l e r=>
     obtain⟨is,ei,rfl⟩:=Option.map_eq_some_iff.mp (show (nu (kvs.map (·.1))).map (fun ns=>D.lst ((sI ns).map .int))=some d from hf)
     refine⟨a,rfl, .inl ⟨is, .inr ⟨kvs,e,oT ei⟩,fun p ms hp h1 h2=> ?_⟩⟩
     rw[Aq h1 h2]
     exact k p _ _ _ rfl (aV hp _) hp aX (pY _)
   |_=>cases hf
end
end PD
namespace PD
open PySem L2
def zh(K:W.Frag)(ns:List Str)(n:Nat)(t:TA)(f:AF):Prop:=∀(L:Addr→Prop) (env:Env) (σ:St) (H:Hp) (Q:List V→Hp→Prop) (ds:List D),EnvR K ns L env σ H→f env=some ds→(∀vs H',ds.length=n→Same H H'→Rds K ns (fun a=>H a=none) H' vs ds→Q vs H')→t σ H Q
def flV(f:VF):VF:=fun env=>(f env).bind fun d=>if d.flat=true then some d else none
section
variable{K:W.Frag}{ns:List Str}{fr:Fr}{lf fl:List Bool}
theorem t7{t:TE}{f:VF}(h:PuE K ns t f):PuX K ns t (flV f):=by
 intro L env σ H Q d he hf k
 obtain⟨d',ed,hf⟩:=bnd hf
 split at hf
 · rename_i hd
   cases hf
   exact h L env σ H Q d he ed fun v H' S r=>k v H' S (r.flat hd)
 · cases hf
theorem zi:zh K ns 0 qU au:=fun L env σ H Q ds he hf k=>by cases hf;exact k _ _ rfl (Same.refl _) .nil
theorem lC{n:Nat}{ta:TE}{fa:VF}{tr:TA}{fr:AF}(ha:PuX K ns ta fa)(hr:zh K ns n tr fr):zh K ns (n+1) (kC ta tr) (ah fa fr):=by
 intro L env σ H Q ds he hf k
 obtain⟨a,ea,hf⟩:=bnd hf
 obtain⟨r,er,hf⟩:=bnd hf
 cases hf
 refine ha L env σ H _ a he ea fun x H1 S1 rx=>hr (Nw L H) env σ H1 _ r (he.nw S1) er fun ys H2 hl S2 ry=> ?_
 exact k _ H2 (congrArg Nat.succ hl) (S1.trans S2) (.cons (rx.mono (fun _ q=>q) (.of S2)) (ry.mono (fun q hq=>ie S1 hq) .refl))
theorem zl{n:Nat}{t:TA}{f:AF}(h:zh K ns n t f)(hn:n≤sizeLine:=by decide):PuX K ns (AZ t) (cG f):=by
 intro L env σ H Q d he hf k
 obtain⟨a,ea,hf⟩:=bnd hf
 cases hf
 refine h L env σ H _ a he ea fun vs H1 hl S1 rx=>⟨by rw[rx.len,hl];exact hn,fun p hp=> ?_⟩
 have N:=aV hp (.tup vs)
 exact k _ _ (S1.trans N) (.tup aX (rx.same N))
theorem zm{n:Nat}{F:List D→Option D}{t:TA}{f:AF}{E:XK}(h:PuA K ns n t f):PuX K ns (oy (spP K ns .yes n F) [] E t) (uX F f):=by
 intro L env σ H Q d he hf k
 obtain⟨as,ea,hf⟩:=bnd hf
 split at hf
 · rename_i hfl
   refine h L env σ H _ as he ea fun xs H1 hl S1 rx=>⟨fun _=>False,as,d,hl,by rw[List.append_nil];exact rx.flat hfl,hf,fun v H2 S2 r=> ?_⟩
   obtain⟨p,us,ds,rfl,rfl,hp,hl2,rr⟩:=(show ∃p us ds,v= .ref p∧d= .lst ds∧H1 p=none∧H2 p=some (.lst us)∧Rds K ns (fun a=>Nw (fun _=>False) H1 a∧a≠p) H2 us ds from r)
   exact k _ H2 (S1.trans S2) (.lst (ie S1 hp) hl2 (rr.mono (fun a q=>ie S1 (q.1.elim (fun z=>z.elim) id)) .refl))
 · cases hf
theorem BT(i:Nat){t:TE}{f:VF}(h:PuX K ns t f):PuS K ns fr lf fl (qP t (jI i)) (aH i f) (fl.set i false):=by
 intro L0 H0 O env σ H E I k
 unfold aH at k
 cases e:f env with
 |none=>rw[e] at k;exact k.elim
 |some d=>
  rw[e] at k
  refine h _ env σ H _ d I.weak e fun v H' S r=> ?_
  exact k _ _ H' ((Step.same S).trans (.give i)) ((I.same S).store (r.mono (fun _ q=>I.new_m q) .refl))
end
end PD
namespace Kl
open PySem L2 PD
def top(i:Nat):Stmt:=PySem.Challenge.pw_ballastway_k28_the_least_entry.main.body.getD i (.Pass ⟨0,0,0,0⟩)
def kNames:List Str:=["Open","Bridge","Road"]
abbrev dE:Stmt:=top 1
local macro_rules | `(tactic| cell_call) => `(tactic| exact ⟨rfl,rfl,rfl,by decide+kernel,rfl,by decide+kernel,by decide+kernel⟩)
local macro_rules | `(tactic| boot_fact) => `(tactic| decide+kernel)
theorem dh:FnScope ["one","other","rest"] ["one","other"] (aq dE):=by cell_call
abbrev mj:Stmt:=top 2
theorem pZ:FnScope ["above","beneath","part"] ["above","beneath"] (aq mj):=by cell_call
abbrev kh:Stmt:=top 3
theorem xC:FnScope ["number"] ["number"] (aq kh):=by cell_call
abbrev ml:Stmt:=top 4
theorem zn:FnScope ["one","other"] ["one","other"] (aq ml):=by cell_call
abbrev cx:Stmt:=top 5
theorem dY:FnScope ["some","beneath","fraction"] ["some"] (aq cx):=by cell_call
abbrev gi:Stmt:=top 6
theorem rX:FnScope ["fraction","beneath"] ["fraction","beneath"] (aq gi):=by cell_call
abbrev eI:Stmt:=top 8
theorem iV:FnScope ["wheels","offsets","wheel"] ["wheels"] (aq eI):=by cell_call
abbrev fE:Stmt:=pk (top 10) 0
theorem qa:FnScope ["self","length"] ["self","length"] (aq fE):=by cell_call
abbrev dF:Stmt:=pk (top 11) 0
theorem ny:FnScope ["self","name","length","bears","wide","most"] ["self","name","length","bears","wide","most"] (aq dF):=by cell_call
abbrev fF:Stmt:=pk (top 12) 0
theorem qb:FnScope ["self","pieces","rounds","shuts"] ["self","pieces","rounds","shuts"] (aq fF):=by cell_call
abbrev dw:Stmt:=top 13
theorem oe:FnScope ["road"] ["road"] (aq dw):=by cell_call
theorem mL:CompC (aq dw) ["road"] ({kind:=ScopeKind.function,names:=[(Str.ofString ".0",NameKind.local),(Str.ofString "piece",NameKind.local),(Str.ofString "isinstance",NameKind.globalImplicit),(Str.ofString "Bridge",NameKind.globalImplicit)],isGenerator:=false,isCoroutine:=false,more:=[]:Scope}) "piece" [] []:=⟨rfl,by boot_fact,by boot_fact,by boot_fact,by boot_fact,by boot_fact,by boot_fact,by boot_fact,by boot_fact⟩
abbrev d8:Stmt:=top 14
theorem qc:FnScope ["road","name"] ["road","name"] (aq d8):=by cell_call
theorem nz:CompC (aq d8) ["road","name"] ({kind:=ScopeKind.function,names:=[(Str.ofString ".0",NameKind.local),(Str.ofString "bridge",NameKind.local),(Str.ofString "name",NameKind.free)],isGenerator:=false,isCoroutine:=false,more:=[]:Scope}) "bridge" ["name"] [1]:=⟨rfl,by boot_fact,by boot_fact,by boot_fact,by boot_fact,by boot_fact,by boot_fact,by boot_fact,by boot_fact⟩
abbrev fA:Stmt:=top 15
theorem rY:FnScope ["road","name"] ["road","name"] (aq fA):=by cell_call
theorem og:CompC (aq fA) ["road","name"] ({kind:=ScopeKind.function,names:=[(Str.ofString ".0",NameKind.local),(Str.ofString "told",NameKind.local),(Str.ofString "name",NameKind.free)],isGenerator:=false,isCoroutine:=false,more:=[]:Scope}) "told" ["name"] [1]:=⟨rfl,by boot_fact,by boot_fact,by boot_fact,by boot_fact,by boot_fact,by boot_fact,by boot_fact,by boot_fact⟩
abbrev jc:Stmt:=top 17
theorem v8:FnScope ["moment","distance","speed"] ["moment","distance","speed"] (aq jc):=by cell_call
abbrev gj:Stmt:=top 18
theorem fG:FnScope ["road","crossing","length","speed","times_told","offset","on"] ["road","crossing"] (aq gj):=by cell_call
abbrev gk:Stmt:=top 20
theorem gO:FnScope ["road","crossings","name","stays","crossing","times","wheel"] ["road","crossings","name"] (aq gk):=by cell_call
abbrev cT:Stmt:=top 22
theorem nA:FnScope ["stays","unit"] ["stays","unit"] (aq cT):=by cell_call
theorem mn:CompC (aq cT) ["stays","unit"] ({kind:=ScopeKind.function,names:=[(Str.ofString ".0",NameKind.local),(Str.ofString "stay",NameKind.local),(Str.ofString "parts_in",NameKind.globalImplicit),(Str.ofString "unit",NameKind.free)],isGenerator:=false,isCoroutine:=false,more:=[]:Scope}) "stay" ["unit"] [1]:=⟨rfl,by boot_fact,by boot_fact,by boot_fact,by boot_fact,by boot_fact,by boot_fact,by boot_fact,by boot_fact⟩
abbrev gl:Stmt:=top 23
theorem cQ:FnScope ["stays","changes","stay","moments","steps","highs","begin","end"] ["stays"] (aq gl):=by cell_call
abbrev cJ:Stmt:=top 24
theorem eJ:FnScope ["others","own","bears","spans","other","step"] ["others","own","bears"] (aq cJ):=by cell_call
abbrev dy:Stmt:=top 25
theorem iW:FnScope ["shuts","own","unit","spans","shut"] ["shuts","own","unit"] (aq dy):=by cell_call
theorem mM:CompC (aq dy) ["shuts","own","unit","spans","shut"] ({kind:=ScopeKind.function,names:=[(Str.ofString ".0",NameKind.local),(Str.ofString "stay",NameKind.local),(Str.ofString "shut",NameKind.free),(Str.ofString "unit",NameKind.free)],isGenerator:=false,isCoroutine:=false,more:=[]:Scope}) "stay" ["shut","unit"] [4,2]:=⟨rfl,by boot_fact,by boot_fact,by boot_fact,by boot_fact,by boot_fact,by boot_fact,by boot_fact,by boot_fact⟩
abbrev cK:Stmt:=top 26
theorem gm:FnScope ["spans","moment","span"] ["spans","moment"] (aq cK):=by cell_call
abbrev d9:Stmt:=top 27
theorem dl:FnScope ["road","crossings","name","speed","wheels","coming","own","others","unit","spans"] ["road","crossings","name","speed","wheels","coming"] (aq d9):=by cell_call
theorem oh:CompC (aq d9) ["road","crossings","name","speed","wheels","coming","own","others","unit","spans"] ({kind:=ScopeKind.function,names:=[(Str.ofString ".0",NameKind.local),(Str.ofString "stay",NameKind.local)],isGenerator:=false,isCoroutine:=false,more:=[]:Scope}) "stay" [] []:=⟨rfl,by boot_fact,by boot_fact,by boot_fact,by boot_fact,by boot_fact,by boot_fact,by boot_fact,by boot_fact⟩
theorem oi:CompC (aq d9) ["road","crossings","name","speed","wheels","coming","own","others","unit","spans"] ({kind:=ScopeKind.function,names:=[(Str.ofString ".0",NameKind.local),(Str.ofString "stay",NameKind.local)],isGenerator:=false,isCoroutine:=false,more:=[]:Scope}) "stay" [] []:=⟨rfl,by boot_fact,by boot_fact,by boot_fact,by boot_fact,by boot_fact,by boot_fact,by boot_fact,by boot_fact⟩
abbrev dG:Stmt:=top 29
theorem nB:FnScope ["_law_script","_law_k"] ["_law_script","_law_k"] (aq dG):=by cell_call
abbrev hZ:Stmt:=top 30
theorem nC:FnScope ["_law_cell","_law_factor","_law_mixed"] ["_law_cell","_law_factor"] (aq hZ):=by cell_call
abbrev gn:Stmt:=top 31
theorem mH:FnScope ["_law_found","_law_due","_law_k"] ["_law_found","_law_due"] (aq gn):=by cell_call
abbrev gp:Stmt:=top 32
theorem gP:FnScope ["_law_above","_law_beneath","_law_one","_law_other"] ["_law_above","_law_beneath"] (aq gp):=by cell_call
abbrev dH:Stmt:=top 35
theorem bx:FnScope ["_law_cell","_law_count","_law_letters","_law_one","_law_size","_law_found","_law_k","_law_two","_law_length","_law_bears","_law_name"] ["_law_cell","_law_count"] (aq dH):=by cell_call
abbrev gq:Stmt:=top 36
theorem dr:FnScope ["_law_bridges_here","_law_rounds","_law_shuts_here","_law_pieces","_law_name","_law_length","_law_bears","_law_wide","_law_most"] ["_law_bridges_here","_law_rounds","_law_shuts_here"] (aq gq):=by cell_call
abbrev eK:Stmt:=top 37
theorem cm:FnScope ["_law_cell","_law_bears","_law_one","_law_many","_law_wheels_here","_law_k","_law_two","_law_high"] ["_law_cell","_law_bears"] (aq eK):=by cell_call
abbrev dI:Stmt:=top 38
theorem cz:FnScope ["_law_wheels_here","_law_at","_law_found","_law_gap","_law_low","_law_high"] ["_law_wheels_here"] (aq dI):=by cell_call
abbrev gr:Stmt:=top 39
theorem rZ:FnScope ["_law_time"] ["_law_time"] (aq gr):=by cell_call
abbrev cL:Stmt:=top 40
theorem bo:FnScope ["_law_bridge","_law_crossing","_law_name","_law_entry","_law_speed","_law_wheels_here","_law_found","_law_offset","_law_wheel","_law_on"] ["_law_bridge","_law_crossing"] (aq cL):=by cell_call
abbrev fH:Stmt:=top 41
theorem g5:FnScope ["_law_bridge","_law_crossings","_law_found","_law_crossing"] ["_law_bridge","_law_crossings"] (aq fH):=by cell_call
abbrev ee:Stmt:=top 42
theorem qd:FnScope ["_law_spans_here","_law_moment"] ["_law_spans_here","_law_moment"] (aq ee):=by cell_call
theorem eh:CompCT (aq ee) ["_law_spans_here","_law_moment"] ({kind:=ScopeKind.function,names:=[(Str.ofString ".0",NameKind.local),(Str.ofString "_law_on",NameKind.local),(Str.ofString "_law_off",NameKind.local),(Str.ofString "_law_low",NameKind.local),(Str.ofString "_law_high",NameKind.local),(Str.ofString "_law_moment",NameKind.free)],isGenerator:=false,isCoroutine:=false,more:=[]:Scope}) ["_law_on","_law_off","_law_low","_law_high"] ["_law_moment"] [1]:=⟨rfl,by boot_fact,by boot_fact,by boot_fact,by boot_fact,by boot_fact,by boot_fact,by boot_fact,by boot_fact⟩
abbrev cU:Stmt:=top 43
theorem io:FnScope ["_law_cell","_law_bridge","_law_wheels_here","_law_one"] ["_law_cell","_law_bridge"] (aq cU):=by cell_call
theorem eL:CompCT (aq cU) ["_law_cell","_law_bridge","_law_wheels_here","_law_one"] ({kind:=ScopeKind.function,names:=[(Str.ofString ".0",NameKind.local),(Str.ofString "_law_gap",NameKind.local),(Str.ofString "_law_low",NameKind.local),(Str.ofString "_law_high",NameKind.local),(Str.ofString "_law_bridge",NameKind.free),(Str.ofString "_law_one",NameKind.free)],isGenerator:=false,isCoroutine:=false,more:=[]:Scope}) ["_law_gap","_law_low","_law_high"] ["_law_bridge","_law_one"] [1,3]:=⟨rfl,by boot_fact,by boot_fact,by boot_fact,by boot_fact,by boot_fact,by boot_fact,by boot_fact,by boot_fact⟩
abbrev eu:Stmt:=top 44
theorem cj:FnScope ["_law_cells","_law_bridges_here","_law_first","_law_found","_law_cell","_law_one","_law_bridge","_law_entry","_law_some"] ["_law_cells","_law_bridges_here","_law_first"] (aq eu):=by cell_call
theorem nD:CompC (aq eu) ["_law_cells","_law_bridges_here","_law_first","_law_found","_law_cell","_law_one","_law_bridge","_law_entry","_law_some"] ({kind:=ScopeKind.function,names:=[(Str.ofString ".0",NameKind.local),(Str.ofString "_law_each",NameKind.local),(Str.ofString "_law_found",NameKind.free)],isGenerator:=false,isCoroutine:=false,more:=[]:Scope}) "_law_each" ["_law_found"] [3]:=⟨rfl,by boot_fact,by boot_fact,by boot_fact,by boot_fact,by boot_fact,by boot_fact,by boot_fact,by boot_fact⟩
abbrev fI:Stmt:=top 45
theorem eM:FnScope ["_law_cell","_law_bridges_here","_law_one","_law_found","_law_k","_law_two","_law_begin"] ["_law_cell","_law_bridges_here"] (aq fI):=by cell_call
abbrev cV:Stmt:=top 46
theorem nE:FnScope ["_law_shuts_here","_law_name"] ["_law_shuts_here","_law_name"] (aq cV):=by cell_call
theorem eN:CompCT (aq cV) ["_law_shuts_here","_law_name"] ({kind:=ScopeKind.function,names:=[(Str.ofString ".0",NameKind.local),(Str.ofString "_law_one",NameKind.local),(Str.ofString "_law_begin",NameKind.local),(Str.ofString "_law_close_here",NameKind.local),(Str.ofString "_law_name",NameKind.free)],isGenerator:=false,isCoroutine:=false,more:=[]:Scope}) ["_law_one","_law_begin","_law_close_here"] ["_law_name"] [1]:=⟨rfl,by boot_fact,by boot_fact,by boot_fact,by boot_fact,by boot_fact,by boot_fact,by boot_fact,by boot_fact⟩
abbrev dJ:Stmt:=top 47
theorem bI:FnScope ["_law_bridge","_law_shuts_here","_law_spans_here","_law_own","_law_begin","_law_close_here","_law_on","_law_off","_law_low","_law_high","_law_together","_law_span"] ["_law_bridge","_law_shuts_here","_law_spans_here","_law_own"] (aq dJ):=by cell_call
abbrev dz:Stmt:=top 48
theorem gL:FnScope ["_law_bridges_here","_law_shuts_here","_law_crossings","_law_found","_law_crossing","_law_bridge"] ["_law_bridges_here","_law_shuts_here","_law_crossings"] (aq dz):=by cell_call
theorem mN:CompC (aq dz) ["_law_bridges_here","_law_shuts_here","_law_crossings","_law_found","_law_crossing","_law_bridge"] ({kind:=ScopeKind.function,names:=[(Str.ofString ".0",NameKind.local),(Str.ofString "_law_one",NameKind.local),(Str.ofString "_law_crossing",NameKind.free)],isGenerator:=false,isCoroutine:=false,more:=[]:Scope}) "_law_one" ["_law_crossing"] [4]:=⟨rfl,by boot_fact,by boot_fact,by boot_fact,by boot_fact,by boot_fact,by boot_fact,by boot_fact,by boot_fact⟩
abbrev eA:Stmt:=top 49
theorem qe:FnScope ["_law_own","_law_by"] ["_law_own","_law_by"] (aq eA):=by cell_call
theorem eB:CompCT (aq eA) ["_law_own","_law_by"] ({kind:=ScopeKind.function,names:=[(Str.ofString ".0",NameKind.local),(Str.ofString "_law_on",NameKind.local),(Str.ofString "_law_off",NameKind.local),(Str.ofString "_law_low",NameKind.local),(Str.ofString "_law_high",NameKind.local),(Str.ofString "_law_by",NameKind.free)],isGenerator:=false,isCoroutine:=false,more:=[]:Scope}) ["_law_on","_law_off","_law_low","_law_high"] ["_law_by"] [1]:=⟨rfl,by boot_fact,by boot_fact,by boot_fact,by boot_fact,by boot_fact,by boot_fact,by boot_fact,by boot_fact⟩
abbrev bq:Stmt:=top 50
theorem bn:FnScope ["_law_bridge","_law_shuts_here","_law_spans_here","_law_own","_law_coming","_law_entry","_law_ends","_law_tries","_law_end","_law_span","_law_one","_law_moved_here"] ["_law_bridge","_law_shuts_here","_law_spans_here","_law_own","_law_coming"] (aq bq):=by cell_call
theorem eC:CompCT (aq bq) ["_law_bridge","_law_shuts_here","_law_spans_here","_law_own","_law_coming","_law_entry","_law_ends","_law_tries","_law_end","_law_span","_law_one","_law_moved_here"] ({kind:=ScopeKind.function,names:=[(Str.ofString ".0",NameKind.local),(Str.ofString "_law_begin",NameKind.local),(Str.ofString "_law_close_here",NameKind.local)],isGenerator:=false,isCoroutine:=false,more:=[]:Scope}) ["_law_begin","_law_close_here"] [] []:=⟨rfl,by boot_fact,by boot_fact,by boot_fact,by boot_fact,by boot_fact,by boot_fact,by boot_fact,by boot_fact⟩
theorem jT:CompC (aq bq) ["_law_bridge","_law_shuts_here","_law_spans_here","_law_own","_law_coming","_law_entry","_law_ends","_law_tries","_law_end","_law_span","_law_one","_law_moved_here"] ({kind:=ScopeKind.function,names:=[(Str.ofString ".0",NameKind.local),(Str.ofString "_law_span",NameKind.local)],isGenerator:=false,isCoroutine:=false,more:=[]:Scope}) "_law_span" [] []:=⟨rfl,by boot_fact,by boot_fact,by boot_fact,by boot_fact,by boot_fact,by boot_fact,by boot_fact,by boot_fact⟩
abbrev kH:Stmt:=top 51
theorem eY:FnScope ["_law_script","_law_cell","_law_bridges_here","_law_shuts_here","_law_road_here","_law_drawn","_law_crossings","_law_k","_law_name","_law_coming","_law_speed","_law_wheels_here","_law_bridge","_law_entry","_law_own","_law_spans_here"] ["_law_script"] (aq kH):=by cell_call
theorem xD:CompC (aq kH) ["_law_script","_law_cell","_law_bridges_here","_law_shuts_here","_law_road_here","_law_drawn","_law_crossings","_law_k","_law_name","_law_coming","_law_speed","_law_wheels_here","_law_bridge","_law_entry","_law_own","_law_spans_here"] ({kind:=ScopeKind.function,names:=[(Str.ofString ".0",NameKind.local),(Str.ofString "_law_one",NameKind.local),(Str.ofString "_law_name",NameKind.free)],isGenerator:=false,isCoroutine:=false,more:=[]:Scope}) "_law_one" ["_law_name"] [8]:=⟨rfl,by boot_fact,by boot_fact,by boot_fact,by boot_fact,by boot_fact,by boot_fact,by boot_fact,by boot_fact⟩
noncomputable def dL:SF:=
 (aD (ifS (bD (oD (aa ltD) (vD 1) (av (aa jQ) (ah (vD 0) au)))) (bC (oD (aa ixD) (vD 0) (vD 1)))
 nxS)
 (bC (cD (.int 0))))
noncomputable def e8:List D→Option D:=aa (bp 2 dL)
abbrev ip(K:W.Frag):Sp:=spP K kNames .no 2 e8
noncomputable def h7:SF:=
 (aD (aH 2 (mk [false,false,false] (oD (aa cb) (oD (aa ba) (oD (aa dC) (vD 0) (vD 1)) (cD (.int 12345))) (cD (.int 2147483647)))))
 (bC (oD (aa cZ) (oD (aa cb) (oD (aa dC) (vD 2) (vD 2)) (cD (.int 2147483629))) (cD (.int 3)))))
noncomputable def bP:List D→Option D:=aa (bp 3 h7)
abbrev eD(K:W.Frag):Sp:=spP K kNames .no 2 bP
abbrev Fa:List Bool:=[false,false,false,false,false,true,false,false,false,false,false]
abbrev Fb:List Bool:=[false,false,false,false,false,false,false,false,false,false,false]
abbrev Fc:List Bool:=[false,false,false,true,false,false,false]
abbrev Fd:List Bool:=[false,false,false,false,false,false,false]
abbrev Fe:List Bool:=[false,false,false,false,false,false,false,false,false]
abbrev Ff:List Bool:=[false,false,false,false,false,false,false,false,false,false,false,false]
abbrev Fg:List Bool:=[false,false,false,false,false,false]
abbrev Fh:List Bool:=[false,false,true,false,false,false]
abbrev Fi:List Bool:=[false,false,false,false,false,false,true,false,false,false]
abbrev Fj:List Bool:=[false,false,false,false,false,false,false,false,false,false]
abbrev Fk:List Bool:=[false,false,false,true,false,false]
abbrev Fm:List Bool:=[false,false,false,false,true,false,false,false]
abbrev Fn:List Bool:=[false,false,false,false,false,false,false,false]
abbrev Fo:List Bool:=[false,false,false,true,false,false,false,false,false]
abbrev Fp:List Bool:=[false,false,false,false,true,false,false]
abbrev Fq:List Bool:=[false,false,false,true,false]
abbrev Fs:List Bool:=[false,false,false,false,false,false,false,true,false,false,false,false]
abbrev Ft:List Bool:=[false,false,false,false,false,false,false,false,false,false,false,false,false,false,false,false]
noncomputable abbrev lB2:SF:=(aD (aH 7 (mk Fa (av bP (ah (oD (aa ba) (vD 0) (oD (aa dC) (cD (.int 7)) (vD 6))) (ah (cD (.int 69621)) au))))) (aD (aH 8 (mk Fa (oD (aa ixD) (fQ (ah (oD (aa ba) (cD (.int 1)) (oD (aa cb) (vD 7) (cD (.int 12)))) (ah (oD (aa ba) (cD (.int 20)) (oD (aa cb) (vD 7) (cD (.int 200)))) (ah (oD (aa ba) (cD (.int 1)) (oD (aa cb) (vD 7) (cD (.int 1000)))) au)))) (oD (aa cb) (oD (aa cZ) (vD 7) (cD (.int 1000))) (cD (.int 3)))))) (aD (aH 9 (mk Fa (oD (aa ba) (cD (.int 10)) (oD (aa cb) (av bP (ah (oD (aa ba) (vD 0) (vD 6)) (ah (cD (.int 39373)) au))) (cD (.int 190)))))) (aD (aH 10 (mk Fa (oD (aa dC) (oD (aa ixD) (vD 2) (oD (aa cb) (oD (aa ba) (oD (aa cZ) (vD 3) (cD (.int 12))) (vD 6)) (cD (.int 26)))) (vD 4)))) (ft 5 (mk Fa (cG (ah (vD 10) (ah (vD 8) (ah (vD 9) (ah (oD (aa ba) (cD (.int 1)) (oD (aa cb) (oD (aa cZ) (vD 7) (cD (.int 3000))) (cD (.int 200)))) (ah (cD (.int 10000000)) au))))))))))))
noncomputable def dM:SF:=
 (aD (aH 2 (mk Fb (cD (.str (Str.ofString "abcdefghijklmnopqrstuvwxyz")))))
 (aD (aH 3 (mk Fb (av bP (ah (vD 0) (ah (cD (.int 48271)) au)))))
 (aD (aH 4 (mk Fb (oD (aa ba) (cD (.int 1)) (oD (aa cb) (vD 3) (cD (.int 12))))))
 (aD (aH 5 (mk Fb (fQ au)))
 (aD (dD (mk Fa (iaD (aa iG) (ah (vD 1) au))) (nmG 6)
 lB2)
 (ky 5))))))
noncomputable def e9:List D→Option D:=aa (bH 11 dM)
abbrev iq(K:W.Frag):Sp:=spP K kNames .yes 2 e9
noncomputable abbrev lB7:SF:=(aD (aH 5 (mk Fc (av bP (ah (oD (aa ba) (vD 0) (vD 4)) (ah (cD (.int 22381)) au))))) (aD (aH 6 (mk Fc (oD (aa cb) (vD 5) (cD (.int 120))))) (ft 3 (mk Fc (cG (ah (oD (aa ixD) (oD (aa ixD) (vD 1) (oD (aa cb) (oD (aa cZ) (vD 5) (cD (.int 120))) (av (aa jQ) (ah (vD 1) au)))) (cD (.int 0))) (ah (vD 6) (ah (oD (aa ba) (oD (aa ba) (vD 6) (cD (.int 1))) (oD (aa cb) (oD (aa cZ) (vD 5) (cD (.int 1000))) (cD (.int 60)))) au))))))))
noncomputable def fJ:SF:=
 (aD (aH 2 (mk Fd (av bP (ah (vD 0) (ah (cD (.int 31337)) au)))))
 (aD (aH 3 (mk Fd (fQ au)))
 (aD (dD (mk Fc (iaD (aa iG) (ah (oD (aa cb) (vD 2) (cD (.int 4))) au))) (nmG 4)
 lB7)
 (ky 3))))
noncomputable def iI:List D→Option D:=aa (bH 7 fJ)
abbrev jw(K:W.Frag):Sp:=spP K kNames .yes 2 iI
noncomputable def qf:List D→Option (List (Fl×D)):=uQ [(.pieces,(av (aa kD) (ah (vD 1) au))),(.rounds,(av (aa kD) (ah (vD 2) au))),(.shuts,(av (aa kD) (ah (vD 3) au)))]
abbrev jx(K:W.Frag):Sp:=spI K kNames .Road 3 qf
noncomputable def kN:List D→Option (List (Fl×D)):=uQ [(.length,(vD 1))]
abbrev jy(K:W.Frag):Sp:=spI K kNames .Open 1 kN
noncomputable def jU:List D→Option (List (Fl×D)):=uQ [(.name,(vD 1)),(.length,(vD 2)),(.bears,(vD 3)),(.wide,(vD 4)),(.most,(vD 5))]
abbrev ir(K:W.Frag):Sp:=spI K kNames .Bridge 5 jU
noncomputable def gt:SF:=
 (aD (aH 3 (mk Fe (fQ (ah (im .Open kN (ah (oD (aa ba) (cD (.int 200)) (av (aa jQ) (ah (vD 0) au))) au)) au))))
 (aD (dD (mk Fe (itD (vD 0))) (gU [4,5,6,7,8])
 (aH 3 (mk Fe (oD (aa ba) (vD 3) (fQ (ah (im .Bridge jU (ah (vD 4) (ah (vD 5) (ah (vD 6) (ah (vD 7) (ah (vD 8) au)))))) (ah (im .Open kN (ah (oD (aa ba) (cD (.int 200)) (oD (aa cZ) (vD 5) (cD (.int 7)))) au)) au)))))))
 (bC (im .Road qf (ah (vD 3) (ah (vD 1) (ah (vD 2) au)))))))
noncomputable def jz:List D→Option D:=aa (bp 9 gt)
abbrev jV(K:W.Frag):Sp:=spP K kNames .no 3 jz
noncomputable def dN:SF:=
 (bC (gX 3 (itD (vD 0)) (bD (oD (aa eqD) (vD 0) (vD 3))) (cG (ah (vD 1) (ah (vD 2) au))) [1]))
noncomputable def cq:List D→Option D:=aa (bH 2 dN)
abbrev fY(K:W.Frag):Sp:=spP K kNames .yes 2 cq
noncomputable def fK:SF:=
 (bC (av (aa yQ) (ah (gX 4 (itD (vD 0)) (bD (chD (aa leD) (aa ltD) (vD 0) (vD 4) (vD 1))) (vD 3) [1]) au)))
noncomputable def gQ:List D→Option D:=aa (bp 2 fK)
abbrev jA(K:W.Frag):Sp:=spP K kNames .no 2 gQ
noncomputable def dO:SF:=
 (aD (dD (mk Ff (itD (av cq (ah (vD 1) (ah (oD (aa ixD) (vD 0) (cD (.int 0))) au))))) (gU [4,5])
 (dD (mk Ff (itD (vD 3))) (gU [6,7,8,9])
 (ifS (lW (bD (oD (aa ltD) (vD 6) (oD (aa dC) (cD (.int 27720)) (vD 5)))) (bD (oD (aa ltD) (oD (aa dC) (cD (.int 27720)) (vD 4)) (vD 7)))) (bC (cD (.bl false)))
 nxS)))
 (aD (aH 10 (mk Ff (oD (aa ba) (vD 2) (vD 3))))
 (aD (dD (mk Ff (itD (vD 10))) (nmG 11)
 (ifS (bD (oD (aa gtD) (av gQ (ah (vD 10) (ah (oD (aa ixD) (vD 11) (cD (.int 0))) au))) (oD (aa ixD) (vD 0) (cD (.int 2))))) (bC (cD (.bl false)))
 nxS))
 (bC (cD (.bl true))))))
noncomputable def cu:List D→Option D:=aa (bp 12 dO)
abbrev eE(K:W.Frag):Sp:=spP K kNames .no 4 cu
noncomputable def dP:SF:=
 (aD (aH 1 (mk Fg (cD (.int 0))))
 (aD (aH 2 (mk Fg (fQ (ah (cD (.int 0)) au))))
 (aD (dD (mk Fh (itD (slD (aa nc) (vD 0) (atO (cD (.int 1))) noO))) (gU [3,4,5])
 (aD (aH 1 (mk Fh (oD (aa ba) (vD 1) (vD 3))))
 (ft 2 (mk Fh (vD 1)))))
 (ky 2))))
noncomputable def ff:List D→Option D:=aa (bH 6 dP)
abbrev iu(K:W.Frag):Sp:=spP K kNames .yes 1 ff
noncomputable def gu:SF:=
 (bC (oD (aa dC) (oD (aa ixD) (vD 0) (cD (.int 0))) (oD (aa ij) (cD (.int 27720)) (oD (aa ixD) (vD 0) (cD (.int 1))))))
noncomputable def fB:List D→Option D:=aa (bp 1 gu)
abbrev iJ(K:W.Frag):Sp:=spP K kNames .no 1 fB
noncomputable abbrev lB4:SF:=(aD (aH 9 (mk Fi (oD (aa ba) (av fB (ah (vD 3) au)) (oD (aa dC) (vD 7) (oD (aa ij) (cD (.int 27720)) (vD 4)))))) (ft 6 (mk Fi (cG (ah (vD 9) (ah (oD (aa ba) (vD 9) (oD (aa dC) (oD (aa ixD) (vD 0) (cD (.int 1))) (oD (aa ij) (cD (.int 27720)) (vD 4)))) (ah (oD (aa ixD) (vD 8) (cD (.int 1))) (ah (oD (aa ixD) (vD 8) (cD (.int 2))) au))))))))
noncomputable def cM:SF:=
 (aD (xa (mk Fj (vD 1)) (gU [2,3,4,5]))
 (aD (aH 6 (mk Fj (fQ au)))
 (aD (dD (mk Fi (iaD (aa pL) (ah (av ff (ah (vD 5) au)) (ah (vD 5) au)))) (gU [7,8])
 lB4)
 (ky 6))))
noncomputable def bJ:List D→Option D:=aa (bH 10 cM)
abbrev dj(K:W.Frag):Sp:=spP K kNames .yes 2 bJ
noncomputable def fL:SF:=
 (aD (aH 2 (mk [false,false,false,false] (fQ au)))
 (aD (dD (mk [false,false,false,false] (itD (vD 1))) (nmG 3)
 (ifS (bD (oD (aa eqD) (oD (aa ixD) (vD 3) (cD (.int 0))) (oD (aa ixD) (vD 0) (cD (.int 0))))) (aH 2 (mk [false,false,false,false] (oD (aa ba) (vD 2) (av bJ (ah (vD 0) (ah (vD 3) au))))))
 nxS))
 (bC (vD 2))))
noncomputable def gR:List D→Option D:=aa (bp 4 fL)
abbrev g6(K:W.Frag):Sp:=spP K kNames .no 2 gR
noncomputable abbrev lB3:SF:=(aD (aH 5 (mk Fk (oD (aa ixD) (bN (itD (vD 0)) (bD (oD (aa eqD) (oD (aa ixD) (vD 0) (cD (.int 0))) (oD (aa ixD) (vD 1) (cD (.int 0))))) (vD 0) [4]) (cD (.int 0))))) (ifS (bD (av cu (ah (vD 5) (ah (vD 1) (ah (av gR (ah (vD 5) (ah (vD 3) au))) (ah (av bJ (ah (vD 5) (ah (vD 4) au))) au)))))) (ft 3 (mk Fk (vD 4))) nxS))
noncomputable def eQ:SF:=
 (aD (aH 3 (mk Fg (fQ au)))
 (aD (dD (mk Fk (itD (vD 2))) (nmG 4)
 lB3)
 (ky 3)))
noncomputable def g7:List D→Option D:=aa (bH 6 eQ)
abbrev iX(K:W.Frag):Sp:=spP K kNames .yes 3 g7
noncomputable def gv:SF:=
 (aD (aH 2 (mk [false,false,false,false] (av (aa rk) (ah (vD 0) au))))
 (aD (aH 3 (mk [false,false,false,false] (av (aa rk) (ah (vD 1) au))))
 (aD (whS (bD (oD (aa neD) (vD 3) (cD (.int 0))))
 (rp 2 3 (mk [false,false,false,false] (ah (vD 3) (ah (oD (aa cb) (vD 2) (vD 3)) au)))))
 (aD (ifS (bD (oD (aa ltD) (vD 1) (cD (.int 0)))) (aH 2 (mk [false,false,false,false] (uD (aa pH) (vD 2))))
 nxS)
 (bC (cG (ah (oD (aa ij) (vD 0) (vD 2)) (ah (oD (aa ij) (vD 1) (vD 2)) au))))))))
noncomputable def iw:List D→Option D:=aa (bp 4 gv)
abbrev iK(K:W.Frag):Sp:=spP K kNames .no 2 iw
noncomputable abbrev lB5:SF:=(aD (aH 6 (mk Fm (av bP (ah (oD (aa ba) (vD 0) (oD (aa dC) (cD (.int 31)) (vD 5))) (ah (cD (.int 40692)) au))))) (aD (aH 7 (mk Fm (oD (aa cb) (vD 6) (oD (aa ba) (oD (aa ij) (vD 1) (vD 3)) (cD (.int 1)))))) (aD (ifS (bD (oD (aa eqD) (oD (aa cb) (oD (aa cZ) (vD 6) (cD (.int 1000))) (cD (.int 3))) (cD (.int 0)))) (aH 7 (mk Fm (oD (aa ij) (vD 1) (vD 3)))) nxS) (ft 4 (mk Fm (cG (ah (oD (aa ba) (cD (.int 1)) (oD (aa cb) (oD (aa cZ) (vD 6) (cD (.int 3000))) (cD (.int 40)))) (ah (oD (aa dg) (vD 7) (oD (aa cb) (oD (aa cZ) (vD 6) (cD (.int 300000))) (oD (aa ba) (vD 7) (cD (.int 1))))) (ah (vD 7) au)))))))))
noncomputable def eR:SF:=
 (aD (aH 2 (mk Fn (av bP (ah (vD 0) (ah (cD (.int 16807)) au)))))
 (aD (aH 3 (mk Fn (oD (aa ba) (cD (.int 1)) (oD (aa cb) (vD 2) (cD (.int 3))))))
 (aD (aH 4 (mk Fn (fQ au)))
 (aD (dD (mk Fm (iaD (aa iG) (ah (vD 3) au))) (nmG 5)
 lB5)
 (ky 4)))))
noncomputable def g8:List D→Option D:=aa (bH 8 eR)
abbrev iY(K:W.Frag):Sp:=spP K kNames .yes 2 g8
noncomputable def cv:SF:=
 (aD (aH 2 (mk [false,false,false,false] (av g8 (ah (vD 0) (ah (oD (aa ixD) (vD 1) (cD (.int 2))) au)))))
 (aD (aH 3 (mk [false,false,true,false] (av bP (ah (vD 0) (ah (cD (.int 35401)) au)))))
 (aD (ifS (orB (bD (oD (aa gtD) (oD (aa ixD) (vD 1) (cD (.int 1))) (cD (.int 60)))) (bD (oD (aa eqD) (oD (aa cb) (vD 3) (cD (.int 2))) (cD (.int 0))))) (ky 2)
 nxS)
 (bC (gX 3 (itD (vD 2)) iO (cG (ah (oD (aa ba) (oD (aa ixD) (vD 3) (cD (.int 1))) (oD (aa cb) (oD (aa cZ) (vD 4) (cD (.int 2))) (cD (.int 20)))) (ah (cD (.int 0)) (ah (oD (aa dg) (oD (aa ixD) (vD 3) (cD (.int 2))) (oD (aa cb) (oD (aa cZ) (vD 4) (cD (.int 40))) (cD (.int 9)))) au)))) [1,3])))))
noncomputable def cW:List D→Option D:=aa (bH 4 cv)
abbrev ix(K:W.Frag):Sp:=spP K kNames .yes 2 cW
noncomputable abbrev lB1:SF:=(aD (aH 5 (mk Fo (av bP (ah (vD 4) (ah (cD (.int 21569)) au))))) (aD (aH 6 (mk Fo (oD (aa ixD) (vD 1) (oD (aa cb) (oD (aa cZ) (vD 5) (cD (.int 7))) (av (aa jQ) (ah (vD 1) au)))))) (aD (aH 7 (mk Fo (av iw (ah (oD (aa cb) (oD (aa cZ) (vD 5) (cD (.int 30))) (cD (.int 40))) (ah (oD (aa ixD) (fQ (ah (cD (.int 1)) (ah (cD (.int 1)) (ah (cD (.int 2)) (ah (cD (.int 3)) (ah (cD (.int 7)) (ah (cD (.int 12)) au))))))) (oD (aa cb) (vD 5) (cD (.int 6)))) au))))) (aD (aH 8 (mk Fo (cG (ah (oD (aa ixD) (vD 6) (cD (.int 0))) (ah (vD 7) (ah (oD (aa ba) (cD (.int 1)) (oD (aa cb) (oD (aa cZ) (vD 5) (cD (.int 2000))) (cD (.int 12)))) (ah (av cW (ah (vD 4) (ah (vD 6) au))) au))))))) (aD (ifS (lW (bD (oD (aa neD) (vD 3) (fQ au))) (bD (oD (aa eqD) (oD (aa cb) (oD (aa cZ) (vD 5) (cD (.int 30000))) (cD (.int 2))) (cD (.int 0))))) (aD (yT 6 (oD (aa ixD) (bN (itD (vD 1)) (bD (oD (aa eqD) (oD (aa ixD) (vD 0) (cD (.int 0))) (oD (aa ixD) (oD (aa ixD) (vD 1) (cD (.int 0))) (cD (.int 0))))) (vD 0) [3]) (cD (.int 0)))) (aH 8 (cG (ah (flV (oD (aa ixD) (oD (aa ixD) (vD 3) (cD (.int 0))) (cD (.int 0)))) (ah (flV (oD (aa ixD) (oD (aa ixD) (vD 3) (cD (.int 0))) (cD (.int 1)))) (ah (flV (oD (aa ixD) (oD (aa ixD) (vD 3) (cD (.int 0))) (cD (.int 2)))) (ah (uX cW (ah (vD 4) (ah (vD 6) au))) au))))))) nxS) (ft 3 (mk Fo (vD 8))))))))
noncomputable def fM:SF:=
 (aD (aH 3 (mk Fe (av (aa kD) (ah (vD 2) au))))
 (aD (dD (mk Fo (itD (vD 0))) (nmG 4)
 lB1)
 (bC (slD (aa nc) (vD 3) (atO (av (aa jQ) (ah (vD 2) au))) noO))))
noncomputable def eF:List D→Option D:=aa (bp 9 fM)
abbrev jB(K:W.Frag):Sp:=spP K kNames .no 3 eF
noncomputable def eS:SF:=
 (aD (aH 1 (mk [false,false,false] (fQ au)))
 (aD (dD (mk [false,true,false] (itD (vD 0))) (nmG 2)
 (pN 1 (ifD (trD (vD 1)) (oD (aa ba) (oD (aa ixD) (vD 1) (uD (aa pH) (cD (.int 1)))) (oD (aa ixD) (vD 2) (cD (.int 0)))) (cD (.int 0)))))
 (ky 1)))
noncomputable def g9:List D→Option D:=aa (bH 3 eS)
abbrev iZ(K:W.Frag):Sp:=spP K kNames .yes 1 g9
noncomputable def eT:SF:=
 (bC (bN (itD (uD (aa (jL .pieces)) (vD 0))) (bD (av (aa (isC .Bridge)) (ah (vD 0) au))) (vD 0) []))
noncomputable def fZ:List D→Option D:=aa (bH 1 eT)
abbrev i4(K:W.Frag):Sp:=spP K kNames .yes 1 fZ
noncomputable def fN:SF:=
 (bC (oD (aa ixD) (bN (itD (av fZ (ah (vD 0) au))) (bD (oD (aa eqD) (uD (aa (jL .name)) (vD 0)) (vD 1))) (vD 0) [1]) (cD (.int 0))))
noncomputable def gS:List D→Option D:=aa (bp 2 fN)
abbrev hI(K:W.Frag):Sp:=spP K kNames .no 2 gS
noncomputable def dQ:SF:=
 (aD (aH 0 (mk [false,false,false] (av (aa rk) (ah (vD 0) au))))
 (aD (aH 1 (mk [false,false,false] (av (aa rk) (ah (vD 1) au))))
 (aD (whS (bD (oD (aa neD) (vD 1) (cD (.int 0))))
 (aD (aH 2 (mk [false,false,false] (oD (aa cb) (vD 0) (vD 1))))
 (aD (aH 0 (mk [false,false,false] (vD 1)))
 (aH 1 (mk [false,false,false] (vD 2))))))
 (bC (vD 0)))))
noncomputable def cX:List D→Option D:=aa (bp 3 dQ)
abbrev ga(K:W.Frag):Sp:=spP K kNames .no 2 cX
noncomputable def mo:SF:=
 (aD (aH 2 (mk [false,false,false] (av cX (ah (vD 0) (ah (vD 1) au)))))
 (aD (ifS (bD (oD (aa ltD) (vD 1) (cD (.int 0)))) (aH 2 (mk [false,false,false] (uD (aa pH) (vD 2))))
 nxS)
 (bC (cG (ah (oD (aa ij) (vD 0) (vD 2)) (ah (oD (aa ij) (vD 1) (vD 2)) au))))))
noncomputable def mq:List D→Option D:=aa (bp 3 mo)
abbrev lD(K:W.Frag):Sp:=spP K kNames .no 2 mq
noncomputable def mr:SF:=
 (bC (av mq (ah (oD (aa ba) (oD (aa dC) (oD (aa ixD) (vD 0) (cD (.int 0))) (oD (aa ixD) (vD 1) (cD (.int 1)))) (oD (aa dC) (oD (aa ixD) (vD 1) (cD (.int 0))) (oD (aa ixD) (vD 0) (cD (.int 1))))) (ah (oD (aa dC) (oD (aa ixD) (vD 0) (cD (.int 1))) (oD (aa ixD) (vD 1) (cD (.int 1)))) au))))
noncomputable def qg:List D→Option D:=aa (bp 2 mr)
abbrev qh(K:W.Frag):Sp:=spP K kNames .no 2 qg
noncomputable def jd:SF:=
 (bC (av qg (ah (vD 0) (ah (av mq (ah (vD 1) (ah (vD 2) au))) au))))
noncomputable def jW:List D→Option D:=aa (bp 3 jd)
abbrev mt(K:W.Frag):Sp:=spP K kNames .no 3 jW
noncomputable abbrev lB9:SF:=(aD (aH 6 (mk Fp (av jW (ah (oD (aa ixD) (vD 1) (cD (.int 1))) (ah (vD 5) (ah (vD 3) au)))))) (ft 4 (mk Fp (cG (ah (vD 6) (ah (av jW (ah (vD 6) (ah (vD 2) (ah (vD 3) au)))) au))))))
noncomputable def gw:SF:=
 (aD (aH 2 (mk Fd (uD (aa (jL .length)) (av gS (ah (vD 0) (ah (oD (aa ixD) (vD 1) (cD (.int 0))) au))))))
 (aD (aH 3 (mk Fd (oD (aa ixD) (vD 1) (cD (.int 2)))))
 (aD (aH 4 (mk Fd (fQ au)))
 (aD (dD (mk Fp (itD (av g9 (ah (oD (aa ixD) (vD 1) (cD (.int 3))) au)))) (nmG 5)
 lB9)
 (ky 4)))))
noncomputable def gz:List D→Option D:=aa (bH 7 gw)
abbrev jX(K:W.Frag):Sp:=spP K kNames .yes 2 gz
noncomputable def gA:SF:=
 (aD (aH 3 (mk Fd (fQ au)))
 (aD (dD (mk Fc (itD (vD 1))) (nmG 4)
 (ifS (bD (oD (aa eqD) (oD (aa ixD) (vD 4) (cD (.int 0))) (vD 2))) (dD (mk Fc (iaD (aa pL) (ah (av gz (ah (vD 0) (ah (vD 4) au))) (ah (oD (aa ixD) (vD 4) (cD (.int 3))) au)))) (gU [5,6])
 (ft 3 (mk Fc (cG (ah (oD (aa ixD) (vD 5) (cD (.int 0))) (ah (oD (aa ixD) (vD 5) (cD (.int 1))) (ah (oD (aa ixD) (vD 6) (cD (.int 1))) (ah (oD (aa ixD) (vD 6) (cD (.int 2))) au))))))))
 nxS))
 (ky 3)))
noncomputable def gB:List D→Option D:=aa (bH 7 gA)
abbrev jY(K:W.Frag):Sp:=spP K kNames .yes 3 gB
noncomputable def cy:SF:=
 (aD (aH 1 (mk [false,false,false] (cD (.int 1))))
 (aD (dD (mk [false,false,false] (itD (vD 0))) (nmG 2)
 (aH 1 (mk [false,false,false] (oD (aa ij) (oD (aa dC) (vD 1) (oD (aa ixD) (vD 2) (cD (.int 1)))) (av cX (ah (vD 1) (ah (oD (aa ixD) (vD 2) (cD (.int 1))) au)))))))
 (bC (vD 1))))
noncomputable def eU:List D→Option D:=aa (bp 3 cy)
abbrev gb(K:W.Frag):Sp:=spP K kNames .no 1 eU
noncomputable def gC:SF:=
 (bC (oD (aa dC) (oD (aa ixD) (vD 0) (cD (.int 0))) (oD (aa ij) (vD 1) (oD (aa ixD) (vD 0) (cD (.int 1))))))
noncomputable def gD:List D→Option D:=aa (bp 2 gC)
abbrev iL(K:W.Frag):Sp:=spP K kNames .no 2 gD
noncomputable def dR:SF:=
 (bC (bN (itD (vD 0)) iO (cG (ah (av gD (ah (oD (aa ixD) (vD 0) (cD (.int 0))) (ah (vD 1) au))) (ah (av gD (ah (oD (aa ixD) (vD 0) (cD (.int 1))) (ah (vD 1) au))) (ah (oD (aa ixD) (vD 0) (cD (.int 3))) au)))) [1]))
noncomputable def fg:List D→Option D:=aa (bH 2 dR)
abbrev iy(K:W.Frag):Sp:=spP K kNames .yes 2 fg
noncomputable def cN:SF:=
 (aD (aH 3 (mk Fg (fQ au)))
 (aD (dD (mk Fk (itD (vD 0))) (nmG 4)
 (dD (mk Fk (itD (vD 1))) (nmG 5)
 (ifS (bD (oD (aa gtD) (oD (aa ba) (oD (aa ixD) (vD 4) (cD (.int 2))) (oD (aa ixD) (vD 5) (cD (.int 2)))) (vD 2))) (ft 3 (mk Fk (cG (ah (oD (aa dg) (oD (aa ixD) (vD 4) (cD (.int 0))) (oD (aa ixD) (vD 5) (cD (.int 1)))) (ah (oD (aa dg) (oD (aa ixD) (vD 4) (cD (.int 1))) (oD (aa ixD) (vD 5) (cD (.int 0)))) au)))))
 nxS)))
 (ky 3)))
noncomputable def fj:List D→Option D:=aa (bH 6 cN)
abbrev gE(K:W.Frag):Sp:=spP K kNames .yes 3 fj
noncomputable abbrev lB6:SF:=(aD (oM 1 (oD (aa ixD) (vD 2) (cD (.int 0))) (oD (aa ba) (xk (vD 1) (oD (aa ixD) (vD 2) (cD (.int 0))) (cD (.int 0))) (oD (aa ixD) (vD 2) (cD (.int 2))))) (oM 1 (oD (aa ixD) (vD 2) (cD (.int 1))) (oD (aa dg) (xk (vD 1) (oD (aa ixD) (vD 2) (cD (.int 1))) (cD (.int 0))) (oD (aa ixD) (vD 2) (cD (.int 2))))))
noncomputable abbrev lB8:SF:=(aD (aH 5 (mk Fm (oD (aa ba) (vD 5) (oD (aa y3) (vD 1) (vD 6))))) (ft 4 (mk Fm (cG (ah (vD 6) (ah (vD 7) (ah (vD 5) au)))))))
noncomputable def gF:SF:=
 (aD (aH 1 (cD (.dk [] [])))
 (aD (dD (mk [false,true,false,false,false,false,false,false] (itD (vD 0))) (nmG 2)
 lB6)
 (aD (aH 3 (mk Fn (av (aa rT) (ah (vD 1) au))))
 (aD (aH 4 (mk Fn (fQ au)))
 (aD (aH 5 (mk Fm (cD (.int 0))))
 (aD (dD (mk Fm (iaD (aa pL) (ah (vD 3) (ah (slD (aa nc) (vD 3) (atO (cD (.int 1))) noO) au)))) (gU [6,7])
 lB8)
 (ky 4)))))))
noncomputable def iz:List D→Option D:=aa (bH 8 gF)
abbrev jZ(K:W.Frag):Sp:=spP K kNames .yes 1 iz
noncomputable def eV:SF:=
 (aD (aH 3 (mk [false,false,false,false,false] (fQ au)))
 (aD (dD (mk Fq (itD (vD 0))) (nmG 4)
 (tN 3 (mk Fq (bN (itD (vD 1)) iO (cG (ah (oD (aa dg) (oD (aa dC) (oD (aa ixD) (vD 1) (cD (.int 0))) (vD 2)) (oD (aa ixD) (vD 0) (cD (.int 1)))) (ah (oD (aa dg) (oD (aa dC) (oD (aa ixD) (vD 1) (cD (.int 1))) (vD 2)) (oD (aa ixD) (vD 0) (cD (.int 0)))) au))) [4,2]))))
 (ky 3)))
noncomputable def hJ:List D→Option D:=aa (bH 5 eV)
abbrev i5(K:W.Frag):Sp:=spP K kNames .yes 3 hJ
noncomputable def cO:SF:=
 (aD (dD (mk [false,false,false] (itD (av (aa rT) (ah (vD 0) au)))) (nmG 2)
 (ifS (lW (bD (oD (aa ltD) (oD (aa ixD) (vD 2) (cD (.int 0))) (vD 1))) (bD (oD (aa ltD) (vD 1) (oD (aa ixD) (vD 2) (cD (.int 1)))))) (aH 1 (mk [false,false,false] (oD (aa ixD) (vD 2) (cD (.int 1)))))
 nxS))
 (bC (vD 1)))
noncomputable def fq:List D→Option D:=aa (bp 3 cO)
abbrev gG(K:W.Frag):Sp:=spP K kNames .no 2 fq
noncomputable def gH:SF:=
 (bC (bN (itD (uD (aa (jL .shuts)) (vD 0))) (bD (oD (aa eqD) (oD (aa ixD) (vD 0) (cD (.int 0))) (vD 1))) (cG (ah (oD (aa ixD) (vD 0) (cD (.int 1))) (ah (oD (aa ixD) (vD 0) (cD (.int 2))) au))) [1]))
noncomputable def jC:List D→Option D:=aa (bH 2 gH)
abbrev j0(K:W.Frag):Sp:=spP K kNames .yes 2 jC
noncomputable def kj:SF:=
 (bC (cG (ah (vD 0) (ah (cD (.int 1)) au))))
noncomputable def lE:List D→Option D:=aa (bp 1 kj)
abbrev nF(K:W.Frag):Sp:=spP K kNames .no 1 lE
noncomputable def gI:SF:=
 (aD (aH 6 (mk Fj (av gB (ah (vD 0) (ah (fQ (ah (cG (ah (vD 2) (ah (av lE (ah (cD (.int 0)) au)) (ah (vD 3) (ah (vD 4) au))))) au)) (ah (vD 2) au))))))
 (aD (aH 7 (mk Fj (av gB (ah (vD 0) (ah (vD 1) (ah (vD 2) au))))))
 (aD (aH 8 (mk Fj (av eU (ah (oD (aa ba) (oD (aa ba) (fQ (ah (vD 5) au)) (bN (itD (oD (aa ba) (vD 6) (vD 7))) iO (oD (aa ixD) (vD 0) (cD (.int 0))) [])) (bN (itD (oD (aa ba) (vD 6) (vD 7))) iO (oD (aa ixD) (vD 0) (cD (.int 1))) [])) au))))
 (aD (aH 6 (mk Fj (av fg (ah (vD 6) (ah (vD 8) au)))))
 (aD (aH 7 (mk Fj (av fg (ah (vD 7) (ah (vD 8) au)))))
 (aD (aH 9 (mk Fj (av fj (ah (av iz (ah (vD 7) au)) (ah (av iz (ah (vD 6) au)) (ah (uD (aa (jL .bears)) (av gS (ah (vD 0) (ah (vD 2) au)))) au))))))
 (aD (aH 9 (mk Fj (oD (aa ba) (vD 9) (av hJ (ah (av jC (ah (vD 0) (ah (vD 2) au))) (ah (vD 6) (ah (vD 8) au)))))))
 (bC (av mq (ah (av fq (ah (vD 9) (ah (av gD (ah (vD 5) (ah (vD 8) au))) au))) (ah (vD 8) au)))))))))))
noncomputable def jD:List D→Option D:=aa (bp 10 gI)
abbrev j3(K:W.Frag):Sp:=spP K kNames .no 6 jD
noncomputable def fO:SF:=
 (bC (gX 4 (itD (vD 0)) iO (cG (ah (oD (aa ba) (vD 0) (vD 4)) (ah (oD (aa ba) (vD 1) (vD 4)) (ah (vD 2) (ah (vD 3) au))))) [1]))
noncomputable def fP:List D→Option D:=aa (bH 2 fO)
abbrev jE(K:W.Frag):Sp:=spP K kNames .yes 2 fP
noncomputable def bQ:SF:=
 (aD (aH 5 (mk Ff (oD (aa ixD) (oD (aa ixD) (vD 3) (cD (.int 0))) (cD (.int 0)))))
 (aD (aH 6 (mk Ff (oD (aa ba) (gX 2 (itD (av cq (ah (vD 1) (ah (oD (aa ixD) (vD 0) (cD (.int 0))) au)))) iO (oD (aa dC) (cD (.int 27720)) (vD 1)) []) (bN (itD (vD 2)) iO (oD (aa ixD) (vD 0) (cD (.int 1))) []))))
 (aD (aH 7 (mk Ff (fQ (ah (vD 4) au))))
 (aD (dD (mk Fs (itD (vD 6))) (nmG 8)
 (dD (mk Fs (itD (vD 3))) (nmG 9)
 (ft 7 (mk Fs (oD (aa dg) (vD 8) (oD (aa dg) (oD (aa ixD) (vD 9) (cD (.int 0))) (vD 5)))))))
 (aD (dD (mk Ff (itD (vD 7))) (nmG 10)
 (ifS (bD (chD (aa leD) (aa ltD) (vD 4) (vD 10) (vD 5))) (aD (aH 11 (mk Ff (av fP (ah (vD 3) (ah (oD (aa dg) (vD 10) (vD 5)) au)))))
 (ifS (bD (av cu (ah (vD 0) (ah (vD 1) (ah (vD 2) (ah (vD 11) au)))))) (bC (cD (.bl false)))
 nxS))
 nxS))
 (bC (cD (.bl true))))))))
noncomputable def dZ:List D→Option D:=aa (bp 12 bQ)
abbrev fD(K:W.Frag):Sp:=spP K kNames .no 5 dZ
noncomputable def iA(F_law_same:List D→Option D):SF:=
 (aD (ifS (bD (oD (aa isD) (vD 1) (cD .non))) (bC (oD (aa isD) (vD 0) (cD .non)))
 nxS)
 (aD (ifS (bD (oD (aa isD) (vD 1) (cD (.bl true)))) (bC (oD (aa isD) (vD 0) (cD (.bl true))))
 nxS)
 (aD (ifS (bD (oD (aa isD) (vD 1) (cD (.bl false)))) (bC (oD (aa isD) (vD 0) (cD (.bl false))))
 nxS)
 (aD (ifS (bD (av (aa (isT "int")) (ah (vD 1) au))) (bC (wV (av (aa (isT "int")) (ah (vD 0) au)) (wV (Bv (av (aa (isT "bool")) (ah (vD 0) au))) (oD (aa eqD) (vD 0) (vD 1)))))
 nxS)
 (aD (ifS (bD (av (aa (isT "str")) (ah (vD 1) au))) (bC (wV (av (aa (isT "str")) (ah (vD 0) au)) (oD (aa eqD) (vD 0) (vD 1))))
 nxS)
 (aD (ifS (lW (bD (av (aa (isT "list")) (ah (vD 1) au))) (m8 (bD (av (aa (isT "list")) (ah (vD 0) au))))) (bC (cD (.bl false)))
 nxS)
 (aD (ifS (lW (bD (av (aa (isT "tuple")) (ah (vD 1) au))) (m8 (bD (av (aa (isT "tuple")) (ah (vD 0) au))))) (bC (cD (.bl false)))
 nxS)
 (aD (ifS (bD (oD (aa neD) (av (aa jQ) (ah (vD 0) au)) (av (aa jQ) (ah (vD 1) au)))) (bC (cD (.bl false)))
 nxS)
 (aD (dD (mk [false,false,false] (iaD (aa iG) (ah (av (aa jQ) (ah (vD 1) au)) au))) (nmG 2)
 (ifS (m8 (bD (av F_law_same (ah (oD (aa ixD) (vD 0) (vD 2)) (ah (oD (aa ixD) (vD 1) (vD 2)) au))))) (bC (cD (.bl false)))
 nxS))
 (bC (cD (.bl true))))))))))))
noncomputable def bU:Nat→List D→Option D
 |0=>fun _=>none
 |n+1=>aa (bp 3 (iA (bU n)))
noncomputable abbrev F_law_same:List D→Option D:=bU 12
abbrev r6(K:W.Frag):Sp:=spP K kNames .no 2 F_law_same
noncomputable abbrev lB0:SF:=(aD (xa (mk Ft (oD (aa ixD) (av eF (ah (fQ (ah (oD (aa ba) (vD 5) (vD 7)) au)) (ah (vD 2) (ah (vD 6) au)))) (cD (.int 0)))) (gU [8,9,10,11])) (aD (aH 12 (mk Ft (oD (aa ixD) (bN (itD (vD 2)) (bD (oD (aa eqD) (oD (aa ixD) (vD 0) (cD (.int 0))) (vD 1))) (vD 0) [8]) (cD (.int 0))))) (aD (aH 13 (mk Ft (av jD (ah (vD 4) (ah (vD 6) (ah (vD 8) (ah (vD 10) (ah (vD 11) (ah (vD 9) au))))))))) (aD (ifS (orB (m8 (bD (av (aa (isT "tuple")) (ah (vD 13) au)))) (orB (bD (oD (aa neD) (av (aa jQ) (ah (vD 13) au)) (cD (.int 2)))) (m8 (bD (av F_law_same (ah (vD 13) (ah (av iw (ah (oD (aa ixD) (vD 13) (cD (.int 0))) (ah (oD (aa ixD) (vD 13) (cD (.int 1))) au))) au))))))) (bC (cD (.bl false))) nxS) (aD (ifS (orB (bD (oD (aa neD) (oD (aa cb) (cD (.int 27720)) (oD (aa ixD) (vD 13) (cD (.int 1)))) (cD (.int 0)))) (bD (oD (aa ltD) (av fB (ah (vD 13) au)) (av fB (ah (vD 9) au))))) (bC (cD (.bl false))) nxS) (aD (aH 14 (mk Ft (av bJ (ah (vD 12) (ah (cG (ah (vD 8) (ah (vD 13) (ah (vD 10) (ah (vD 11) au))))) au))))) (aD (aH 15 (mk Ft (av gR (ah (vD 12) (ah (vD 6) au))))) (aD (ifS (m8 (bD (av cu (ah (vD 12) (ah (vD 3) (ah (vD 15) (ah (vD 14) au))))))) (bC (cD (.bl false))) nxS) (ifS (m8 (bD (av dZ (ah (vD 12) (ah (vD 3) (ah (vD 15) (ah (vD 14) (ah (av fB (ah (vD 9) au)) au)))))))) (bC (cD (.bl false))) nxS)))))))))
noncomputable def vh:SF:=
 (aD (aH 1 (mk Ft (av e8 (ah (vD 0) (ah (cD (.int 0)) au)))))
 (aD (aH 2 (mk Ft (av e9 (ah (vD 1) (ah (oD (aa ba) (cD (.int 1)) (oD (aa cb) (av bP (ah (vD 1) (ah (cD (.int 39373)) au))) (cD (.int 2)))) au)))))
 (aD (aH 3 (mk Ft (av iI (ah (vD 1) (ah (vD 2) au)))))
 (aD (aH 4 (mk Ft (av jz (ah (vD 2) (ah (fQ au) (ah (vD 3) au))))))
 (aD (aH 5 (mk Ft (av bP (ah (av e8 (ah (vD 0) (ah (cD (.int 1)) au))) (ah (cD (.int 48271)) au)))))
 (aD (aH 6 (mk Ft (av g7 (ah (vD 2) (ah (vD 3) (ah (av eF (ah (slD (aa nc) (vD 0) (atO (cD (.int 2))) (atO (cD (.int 6)))) (ah (vD 2) (ah (fQ au) au)))) au))))))
 (aD (dD (mk Ft (iaD (aa iG) (ah (cD (.int 3)) au))) (nmG 7)
 lB0)
 (bC (cD (.bl true))))))))))
noncomputable def vi:List D→Option D:=aa (bp 16 vh)
open PD
theorem zo{i j:Int}(h:(-18446744073709551616<i∧i<18446744073709551616)∨(-18446744073709551616<j∧j<18446744073709551616)):aa dC (.int i) (.int j)=some (.int (i*j)):=by rw[ap];exact if_pos h
theorem zp{i j:Int}(h:0<j):aa cb (.int i) (.int j)=some (.int (i%j)):=by rw[ap];exact if_pos h
theorem r9{i j:Int}(h:0<j∧j<1073741824):aa cZ (.int i) (.int j)=some (.int (i/j)):=by rw[ap];exact if_pos h
theorem je{i j:Int}(h:0<j∧j<18446744073709551616):aa ij (.int i) (.int j)=some (.int (i/j)):=by rw[ap];exact if_pos h
theorem qi{i j:Int}:aa ba (.int i) (.int j)=some (.int (i+j)):=by rw[ap];exact rfl
theorem zq{i j:Int}:aa dg (.int i) (.int j)=some (.int (i-j)):=by rw[ap];exact rfl
theorem BU{i j:Int}:aa ltD (.int i) (.int j)=some (.bl (decide (i<j))):=by rw[ap];exact rfl
theorem BV{i j:Int}:aa leD (.int i) (.int j)=some (.bl (decide (i≤j))):=by rw[ap];exact rfl
theorem BW{i j:Int}:aa gtD (.int i) (.int j)=some (.bl (decide (j<i))):=by rw[ap];exact rfl
theorem BX{i j:Int}:aa eqD (.int i) (.int j)=some (.bl (decide (i=j))):=by rw[ap];exact rfl
theorem xE{i j:Str}:aa eqD (.str i) (.str j)=some (.bl (decide (i=j))):=by rw[ap];exact rfl
theorem BY{i j:Int}:aa neD (.int i) (.int j)=some (.bl (!decide (i=j))):=by rw[ap];exact rfl
theorem BZ{i:Int}:aa pH (.int i)=some (.int (-i)):=by rw[ap];exact rfl
theorem jK{xs:List D}{i:Int}:aa ixD (.lst xs) (.int i)=atI xs i:=by rw[ap];exact rfl
theorem aZ{xs:List D}{i:Int}:aa ixD (.tup xs) (.int i)=atI xs i:=by rw[ap];exact rfl
theorem Dq{xs:List D}{i:Int}:aa ixD (.fz xs) (.int i)=atI xs i:=by rw[ap];exact rfl
theorem se{α:Type}{xs:List α}{n:Nat}(h:n<xs.length):atI xs (n:Int)=xs[n]? :=by
 unfold atI ixN
 rw[if_pos (by omega),if_pos (by omega)]
 rfl
theorem j4{α:Type}{xs:List α}{i:Int}{n:Nat}{x:α}(hi:i=n)(h:xs[n]? =some x):atI xs i=some x:=by
 subst hi
 rw[se (List.getElem?_eq_some_iff.mp h).1,h]
theorem gJ{o:Option D}{r:PD.Env}:vD 0 (o::r)=o:=rfl
theorem jM{n:Nat}{o:Option D}{r:PD.Env}:vD (n+1) (o::r)=vD n r:=rfl
theorem km{fl:List Bool}{o:Option D}{r:PD.Env}:d7 (false::fl) (o::r)=o::d7 fl r:=rfl
theorem mS{fl:List Bool}{o:Option D}{r:PD.Env}:d7 (true::fl) (o::r)=none::d7 fl r:=rfl
theorem kn{r:PD.Env}:d7 [] r=[]:=rfl
theorem Ar{xs:List D}{r:PD.Env}:gW 0 (some (.lst xs)::r)=some xs:=rfl
theorem As{n:Nat}{o:Option D}{r:PD.Env}:gW (n+1) (o::r)=gW n r:=rfl
theorem zr{xs:List D}:aa Dc [.lst xs]=some (Ag xs):=by rw[ap];exact rfl
theorem B0{xs ys:List D}:aa pL [.lst xs, .lst ys]=some (lX xs ys):=by rw[ap];exact rfl
theorem xF{xs:List D}:aa jQ [.lst xs]=some (.int xs.length):=by rw[ap];rfl
theorem xG{xs:List D}:aa jQ [.tup xs]=some (.int xs.length):=by rw[ap];rfl
theorem aB{α β:Type}{a:α}{f:α→Option β}:(some a).bind f=f a:=rfl
theorem ite_tt{α:Type}{a b:α}:(if true=true then a else b)=a:=rfl
theorem ite_ff{α:Type}{a b:α}:(if false=true then a else b)=b:=rfl
theorem hV{F G:SF}{e e1:PD.Env}(h:F e=some (.nx e1)):aD F G e=G e1:=by unfold aD;rw[h];rfl
theorem cA{n:Nat}{b:SF}{ds:List D}{d:D}(h:b (jq n ds)=some (.rt d)):bp n b ds=some d:=by unfold bp;rw[h];rfl
theorem bR{n:Nat}{b:SF}{ds:List D}{d:D}(h:b (jq n ds)=some (.rt d)):bH n b ds=some d:=by unfold bH;rw[h];rfl
theorem mlo{a k:Int}(h:0<k:=by decide):0≤a%k:=Int.emod_nonneg _ (Int.ne_of_gt h)
theorem mhi{a k:Int}(h:0<k:=by decide):a%k<k:=Int.emod_lt_of_pos _ h
theorem mge{a k c m:Int}(h:0<k:=by decide)(h2:m≤c:=by decide):m≤c+a%k:=by
 have:=mlo (a:=a) h
 omega
theorem mle{a k c m:Int}(h:0<k:=by decide)(h2:c+k≤m+1:=by decide):c+a%k≤m:=by
 have:=mhi (a:=a) h
 omega
theorem Dr{a:Int}(h:1≤a):0<a:=h
theorem inn{a:Int}(h:1≤a):0≤a:=Int.le_of_lt h
theorem ilt{a m n:Int}(h:a≤m)(h2:m<n:=by decide):a<n:=Int.lt_of_le_of_lt h h2
theorem ile{a m n:Int}(h:a≤m)(h2:m≤n:=by decide):a≤n:=Int.le_trans h h2
theorem ipz{b:Int}(h:0≤b)(h0:¬b=0):0<b:=by omega
theorem ine{b:Int}(h:0<b):b≠0:=Int.ne_of_gt h
theorem D9{b:Int}(h:0<b):¬b<0:=fun q=>Int.lt_irrefl _ (Int.lt_trans h q)
theorem Ds{b:Int}(h:0≤b):0<b+1:=Int.lt_add_one_of_le h
theorem itn{i:Int}(h:0≤i):i=((i.toNat:Nat):Int):=(Int.toNat_of_nonneg h).symm
theorem nub{n m:Nat}{a k c:Int}(h:c+a%k=(n:Int))(hk:0<k:=by decide)(h2:c+k≤(m:Int)+1:=by decide):n≤m:=by
 have:=mhi (a:=a) hk
 omega
theorem nlb{n m:Nat}{a k c:Int}(h:c+a%k=(n:Int))(hk:0<k:=by decide)(h2:(m:Int)≤c:=by decide):m≤n:=by
 have:=mlo (a:=a) hk
 omega
theorem nit{i n:Nat}(h:i<n):(i:Int)<(n:Int):=Int.ofNat_lt.mpr h
theorem Ea{a j m n:Nat}(h:a+(m-j)≤n+1)(hj:j<m):a+(m-(j+1))≤n:=by omega
theorem Dt{a j m n:Nat}(h:(m-j)+a≤n+1)(hj:j<m):(m-(j+1))+a≤n:=by omega
theorem nlt{a m n:Nat}(h:a≤m)(h2:m<n:=by decide):a<n:=Nat.lt_of_le_of_lt h h2
theorem nle{a m n:Nat}(h:a≤m)(h2:m≤n:=by decide):a≤n:=Nat.le_trans h h2
theorem nll{a m n:Nat}(h:a<m)(h2:m≤n:=by decide):a<n:=Nat.lt_of_lt_of_le h h2
theorem nla{a b m n:Nat}(h:a+b<m)(h2:m≤n:=by decide):a<n:=Nat.lt_of_le_of_lt (Nat.le_add_right a b) (Nat.lt_of_lt_of_le h h2)
set_option compiler.extract_closed false
local macro_rules | `(tactic| o_reads) => `(tactic| first | decide | exact .inl (by decide) | exact .inr (by decide) | omega)
local macro_rules | `(tactic| o_shape) => `(tactic| first | decide | exact mlo | exact mhi | exact mge | exact mle | assumption | exact Nat.le_refl _ | exact Dr (by assumption) | exact inn (by assumption) | exact ilt (by assumption) | exact ile (by assumption) | exact nlt (by assumption) | exact nle (by assumption) | exact nll (by assumption) | exact nla (by assumption) | exact ine (by assumption) | exact ine (Dr (by assumption)) | exact ipz (by assumption) (by assumption) | exact Int.le_of_lt (by assumption) | exact D9 (by assumption) | exact Ds (by assumption) | exact ine (Ds (by assumption)) | exact itn (by assumption) | exact itn mge | exact Ea (by assumption) (by assumption) | exact Dt (by assumption) (by assumption) | omega)
local macro_rules | `(tactic| k_search ($a, $bs,*)) => `(tactic| simp (disch := o_reads) only [$a:term, $[$bs:term],*, slD, atO, noO, iaD, itD, zr, B0, xF, xG, dD, bp, bH, aD, aH, ky, ft, pN, xa, nmG, gU, kG, bC, ifS, nxS, bD, mk, km, mS, kn, Ar, As, oD, uD, gJ, jM, cD, av, ah, au, cG, fQ, lW, orB, m8, wV, orD, Bv, aB, ite_tt, ite_ff, if_true, if_false, List.set_cons_zero, List.set_cons_succ, List.length_map, List.length_range, List.length_append, List.length_cons, List.length_nil, zo, zp, r9, je, qi, zq, BU, BV, BW, BX, xE, BY, BZ])
local macro_rules | `(tactic| k_search ($a)) => `(tactic| k_search ($a, aB))
local macro_rules | `(tactic| ktf_call $t) => `(tactic| refine (hV (by k_search $t; try rfl)).trans ?_)
theorem sf{g:GF}{b:SF}(Pv:Nat→PD.Env→Prop):∀{ds:List D} {env:PD.Env} (k:Nat),Pv k env→(∀i d e,ds[i]? =some d→Pv (k+i) e→∃e1,g d e=some e1∧∃e2,b e1=some (.nx e2)∧Pv (k+i+1) e2)→∃e',bE g b ds env=some (.nx e')∧Pv (k+ds.length) e'
 |[],env,k,h0,_=>⟨env,rfl,h0⟩
 |d::ds,env,k,h0,hs=>by
  obtain⟨e1,h1,e2,h2,p2⟩:=hs 0 d env rfl h0
  obtain⟨e',h3,p3⟩:=sf (g:=g) (b:=b) Pv (ds:=ds) (env:=e2) (k+1) p2 (fun i d e hd hp=>by
   obtain⟨f1,q1,f2,q2,q3⟩:=hs (i+1) d e hd (by rw[show k+(i+1)=k+1+i from by omega];exact hp)
   exact⟨f1,q1,f2,q2,by rw[show k+1+i+1=k+(i+1)+1 from by omega];exact q3⟩)
  refine⟨e', ?_,by rw[List.length_cons,show k+(ds.length+1)=k+1+ds.length from by omega];exact p3⟩
  rw[bE,h1,aB,h2,aB]
  exact h3
theorem gT{g:GF}{b:SF}{ds:List D}{env:PD.Env}(Pv:Nat→PD.Env→Prop)(h0:Pv 0 env)(hs:∀i d e,ds[i]? =some d→Pv i e→∃e1,g d e=some e1∧∃e2,b e1=some (.nx e2)∧Pv (i+1) e2):∃e',bE g b ds env=some (.nx e')∧Pv ds.length e':=by
 obtain⟨e',h1,h2⟩:=sf (g:=g) (b:=b) Pv 0 h0 (fun i d e hd hp=>by rw[Nat.zero_add] at hp ⊢;exact hs i d e hd hp)
 exact⟨e',h1,by rw[Nat.zero_add] at h2;exact h2⟩
theorem j5{fc:BF}{fe:VF}{caps:PD.Env}{α:Type}{mk:α→D}{f:α→D}:∀{xs:List α},(∀x∈xs,fc (some (mk x)::caps)=some true∧fe (some (mk x)::caps)=some (f x))→gN fc fe caps (xs.map mk)=some (xs.map f)
 |[],_=>rfl
 |x::xs,h=>by
  obtain⟨h1,h2⟩:=h x List.mem_cons_self
  rw[List.map_cons,gN,h1,aB,ite_tt,h2,aB,j5 fun y hy=>h y (List.mem_cons_of_mem _ hy)]
  rfl
theorem j6{fc:BF}{fe:VF}{caps:PD.Env}{α:Type}{mk:α→D}{p:α→Bool}{f:α→D}:∀{xs:List α},(∀x∈xs,fc (some (mk x)::caps)=some (p x)∧(p x=true→fe (some (mk x)::caps)=some (f x)))→gN fc fe caps (xs.map mk)=some ((xs.filter p).map f)
 |[],_=>rfl
 |x::xs,h=>by
  obtain⟨h1,h2⟩:=h x List.mem_cons_self
  rw[List.map_cons,gN,h1,aB,j6 fun y hy=>h y (List.mem_cons_of_mem _ hy)]
  cases e:p x with
  |true=>rw[ite_tt,h2 e,aB,List.filter_cons_of_pos (by simpa using e)];rfl
  |false=>rw[ite_ff,List.filter_cons_of_neg (by simp[e])]
theorem vj:∀{xs:List Int},inS (xs.map D.int)=some xs
 |[]=>rfl
 |x::xs=>by rw[List.map_cons,inS,vj];rfl
theorem oU(c:Nat):∀(k:Nat) (acc:Array Nat),((List.replicate k #[c]).foldl (· ++ ·) acc).toList=acc.toList++List.replicate k c
 |0,acc=>by simp
 |k+1,acc=>by
  rw[List.replicate_succ,List.foldl_cons,oU c k,Array.toList_append,List.append_assoc]
  rfl
theorem t8(c:Nat)(n:Int):Tx.cs (Txt.mul ⟨#[c]⟩ n)=List.replicate n.toNat c:=by
 unfold Txt.mul
 by_cases h1:n<1
 · rw[if_pos h1,show n.toNat=0 by o_shape]
   rfl
 · rw[if_neg h1]
   by_cases h2:n=1
   · subst h2;rfl
   · have e:(n==1||(⟨#[c]⟩:Str).length==0)=false:=by
      rw[show (n==1)=false from by simpa using h2]
      rfl
     rw[e,if_neg Bool.false_ne_true]
     show ((List.replicate n.toNat #[c]).foldl (· ++ ·) #[]).toList=_
     rw[oU]
     rfl
structure Br where
 name:Str
 length:Int
 bears:Int
 wide:Int
 most:Int
def Br.t(b:Br):D:= .tup [.str "bridge", .str b.name, .int b.length, .int b.bears, .int b.wide, .int b.most]
def Br.o(b:Br):D:= .ob .Bridge [(.name, .str b.name),(.length, .int b.length),(.bears, .int b.bears),(.wide, .int b.wide),(.most, .int b.most)]
def opT(l:Int):D:= .tup [.str "open", .int l]
def opO(l:Int):D:= .ob .Open [(.length, .int l)]
inductive Pc where
 |op (l:Int)|br (b:Br)
def Pc.t:Pc→D
 | .op l=>opT l
 | .br b=>b.t
def Pc.o:Pc→D
 | .op l=>opO l
 | .br b=>b.o
def Pc.isB:Pc→Bool
 | .br _=>true
 |_=>false
def rdT(r:Str×Int):D:= .tup [.str r.1, .int r.2]
def shT(r:Str×Int×Int):D:= .tup [.str r.1, .int r.2.1, .int r.2.2]
structure Rod where
 first:Int
 bs:List (Br×Int)
 rounds:List (Str×Int)
 shuts:List (Str×Int×Int)
def bsP:List (Br×Int)→List Pc
 |[]=>[]
 |(b,o)::r=> .br b:: .op o::bsP r
def Rod.pcs(R:Rod):List Pc:= .op R.first::bsP R.bs
def Rod.o(R:Rod):D:= .ob .Road [(.pieces, .lst (R.pcs.map Pc.o)),(.rounds, .lst (R.rounds.map rdT)),(.shuts, .lst (R.shuts.map shT))]
theorem Du{xs:List D}{i n:Int}{Pv:D→Prop}(h0:0≤i)(h1:i<xs.length)(h:∀x∈xs,Pv x):∃x,atI xs i=some x∧Pv x:=by
 have hk:i.toNat<xs.length:=by o_shape
 exact⟨xs[i.toNat],j4 (n:=i.toNat) (by o_shape) (List.getElem?_eq_getElem hk),h _ (List.getElem_mem hk)⟩
def At(a b:Int)(d:D):Prop:=∃i,d= .int i∧a≤i∧i≤b
theorem B1{i:Int}(h0:0≤i)(h1:i<26):∃c,aa ixD (.str (Str.ofString "abcdefghijklmnopqrstuvwxyz")) (.int i)=some (.str ⟨#[c]⟩)∧(c:Int)=97+i:=by
 have all:∀k:Nat,k<26→(Str.ofString "abcdefghijklmnopqrstuvwxyz").cps.toList[k]? =some (97+k):=by boot_fact
 have q:=j4 (i:=i) (n:=i.toNat) (by o_shape) (all i.toNat (by o_shape))
 refine⟨97+i.toNat, ?_,by o_shape⟩
 have e:aa ixD (.str (Str.ofString "abcdefghijklmnopqrstuvwxyz")) (.int i)=if(Str.ofString "abcdefghijklmnopqrstuvwxyz").length≤1000000 then(atI (Str.ofString "abcdefghijklmnopqrstuvwxyz").cps.toList i).map fun c=>D.str ⟨#[c]⟩ else none:=by rw[ap];rfl
 rw[e,if_pos (by boot_fact),q]
 rfl
theorem B2{a:Str}{n:Int}(h:a.length≤16∧0≤n∧n≤1000000):aa dC (.str a) (.int n)=some (.str (Txt.mul a n)):=by rw[ap];exact if_pos h
theorem ko{j:Int}(h: -1000000<j∧j<1000000):aa iG [.int j]=some ((List.range j.toNat).map fun(i:Nat)=>D.int (0+(i:Int))):=by rw[ap];exact if_pos h
theorem vk:∀(bs:List (Br×Int)) (b:Br) (o:Int),bsP (bs++[(b,o)])=bsP bs++[.br b, .op o]
 |[],_,_=>rfl
 |(c,p)::r,b,o=>by
  show Pc.br c:: .op p::bsP (r++[(b,o)])=_
  rw[vk r b o]
  rfl
theorem qj:∀bs:List (Br×Int),(bsP bs).length=2*bs.length
 |[]=>rfl
 |(c,p)::r=>by
  show (bsP r).length+1+1=2*(r.length+1)
  rw[qj r]
  omega
def si{α:Type}(xs:List α)(lo hi:Option Int):List α:=(xs.drop (HT.sIx xs.length 0 lo)).take (HT.sIx xs.length xs.length hi-HT.sIx xs.length 0 lo)
theorem lF{α:Type}{f:α→D}{xs:List α}{lo hi:Option Int}:m9 (xs.map f) lo hi=(si xs lo hi).map f:=by
 unfold m9 si
 rw[List.length_map,List.map_take,List.map_drop]
theorem xH{α:Type}{xs:List α}{a b:Nat}:(si xs (some (a:Int)) (some (b:Int))).length≤b-a:=by
 unfold si
 rw[HT.sIx_nat,HT.sIx_nat]
 refine Nat.le_trans (List.length_take_le _ _) ?_
 rcases Nat.le_total a xs.length with h|h
 · rw[Nat.min_eq_left h]
   exact Nat.sub_le_sub_right (Nat.min_le_left _ _) _
 · rw[Nat.min_eq_right h]
   exact Nat.le_trans (Nat.le_of_eq (Nat.sub_eq_zero_of_le (Nat.min_le_right _ _))) (Nat.zero_le _)
inductive Good:Nat→D→Prop
 |non (k:Nat):Good (k+1) .non
 |bl (k:Nat) (b:Bool):Good (k+1) (.bl b)
 |int (k:Nat) (i:Int):Good (k+1) (.int i)
 |str (k:Nat) (s:Str):Good (k+1) (.str s)
 |lst {k:Nat} {xs:List D} (h:∀x∈xs,Good k x) (l:xs.length<1000000):Good (k+1) (.lst xs)
 |tup {k:Nat} {xs:List D} (h:∀x∈xs,Good k x) (l:xs.length<1000000):Good (k+1) (.tup xs)
theorem Dw{c c':Cl}{fs:List (Fl×D)}{b:Bool}(h:decide (c'=c)=b):aa (isC c) [.ob c' fs]=some (.bl b):=by
 rw[ap,←h]
 rfl
theorem Dx{T:String}{i:Int}:aa (isT T) [.int i]=some (.bl (gM "int" T)):=by rw[ap];rfl
theorem Dy{T:String}{i:Str}:aa (isT T) [.str i]=some (.bl (gM "str" T)):=by rw[ap];rfl
theorem Dz{T:String}{i:List D}:aa (isT T) [.lst i]=some (.bl (gM "list" T)):=by rw[ap];rfl
theorem Au{T:String}{i:List D}:aa (isT T) [.tup i]=some (.bl (gM "tuple" T)):=by rw[ap];rfl
theorem DA{i:Int}:aa isD (.int i) .non=some (.bl false):=by rw[ap];rfl
theorem DB{i:Str}:aa isD (.str i) .non=some (.bl false):=by rw[ap];rfl
theorem Av{i:Bool}:aa isD (.bl i) .non=some (.bl false):=by rw[ap];rfl
theorem DC:aa isD .non .non=some (.bl true):=by rw[ap];rfl
theorem DD{i:List D}:aa isD (.lst i) .non=some (.bl false):=by rw[ap];rfl
theorem DF{i:List D}:aa isD (.tup i) .non=some (.bl false):=by rw[ap];rfl
theorem k_is:gM "int" "str"=false:=by decide
theorem k_ii:gM "int" "int"=true:=by decide
theorem k_ib:gM "int" "bool"=false:=by decide
theorem k_ss:gM "str" "str"=true:=by decide
theorem k_si:gM "str" "int"=false:=by decide
theorem k_li:gM "list" "int"=false:=by decide
theorem k_ls:gM "list" "str"=false:=by decide
theorem k_lt:gM "list" "tuple"=false:=by decide
theorem k_ti:gM "tuple" "int"=false:=by decide
theorem k_ts:gM "tuple" "str"=false:=by decide
theorem k_tl:gM "tuple" "list"=false:=by decide
theorem k_ll:gM "list" "list"=true:=by decide
theorem k_tt:gM "tuple" "tuple"=true:=by decide
theorem ix0{a:D}{r:List D}:atI (a::r) 0=some a:=by
 have:=se (xs:=a::r) (n:=0) (by simp)
 exact this
theorem bS{xs:List D}{i:Int}{n:Nat}{x:D}(h:xs[n]? =some x)(hi:i=n:=by rfl):atI xs i=some x:=j4 hi h
theorem DG{l:Int}:kN [.int l]=some [(.length, .int l)]:=rfl
theorem Eb{b:Br}:jU [.str b.name, .int b.length, .int b.bears, .int b.wide, .int b.most]=some [(.name, .str b.name),(.length, .int b.length),(.bears, .int b.bears),(.wide, .int b.wide),(.most, .int b.most)]:=rfl
theorem xI{xs:List D}:aa kD [.lst xs]=some (.lst xs):=by rw[ap];rfl
theorem Ec{a b c:List D}:qf [.lst a, .lst b, .lst c]=some [(.pieces, .lst a),(.rounds, .lst b),(.shuts, .lst c)]:=by
 show rn [(.pieces,av (aa kD) (ah (vD 1) au)),(.rounds,av (aa kD) (ah (vD 2) au)),(.shuts,av (aa kD) (ah (vD 3) au))] [none,some (.lst a),some (.lst b),some (.lst c)]=_
 simp only[rn,av,ah,au,gJ,jM,aB,xI,Option.map_some]
theorem sj{c:Cl}{fs:List (Fl×D)}{f:Fl}{d:D}(h:jL f (.ob c fs)=some d):aa (jL f) (.ob c fs)=some d:=by rw[ap];exact h
theorem xJ{R:Rod}:aa (jL .pieces) R.o=some (.lst (R.pcs.map Pc.o)):=sj rfl
theorem zt{R:Rod}:aa (jL .shuts) R.o=some (.lst (R.shuts.map shT)):=sj rfl
theorem vm:∀bs:List (Br×Int),(bsP bs).filter Pc.isB=bs.map fun x=>Pc.br x.1
 |[]=>rfl
 |(b,o)::r=>by
  show Pc.br b::(bsP r).filter Pc.isB=_
  rw[vm r]
  rfl
theorem v9{R:Rod}(pl:R.pcs.length<1000):fZ [R.o]=some (.lst (R.bs.map fun x=>x.1.o)):=by
 rw[fZ,ap]
 refine bR ?_
 show eT [some R.o]=_
 unfold eT
 have hc:bN (itD (uD (aa (jL .pieces)) (vD 0))) (bD (av (aa (isC .Bridge)) (ah (vD 0) au))) (vD 0) [] [some R.o]=some (.lst (R.bs.map fun x=>x.1.o)):=by
  unfold bN
  simp only[itD,uD,gJ,aB,xJ,aW]
  rw[if_pos (by rw[List.length_map];o_shape),j6 (p:=Pc.isB) (f:=Pc.o)]
  · show some (D.lst ((((Pc.op R.first::bsP R.bs).filter Pc.isB)).map Pc.o))=_
    rw[List.filter_cons_of_neg (by exact Bool.false_ne_true),vm,List.map_map]
    rfl
  · intro p _
    refine⟨?_,fun _=>rfl⟩
    have c1:aa (isC .Bridge) [p.o]=some (.bl p.isB):=by cases p<;>exact Dw (by first|decide|rfl)
    simp only[bD,av,ah,au,gJ,aB,c1]
 unfold bC
 rw[hc]
 rfl
theorem B3{i:Int}:aa rk [.int i]=some (.int (if i<0 then-i else i)):=by rw[ap];rfl
def frD(p:Int×Int):D:= .tup [.int p.1, .int p.2]
theorem so{b r:Int}(h0:0<r)(h1:r≤b):2*(b%r)<b:=by
 have m0:=Int.emod_lt_of_pos b h0
 have e:=Int.emod_add_mul_ediv b r
 have q:1≤b/r:=by rw[Int.le_ediv_iff_mul_le h0];o_shape
 have p:r*1≤r*(b/r):=Int.mul_le_mul_of_nonneg_left q (by o_shape)
 omega
theorem qk{a b:Int}{o:Option D}(k:Nat)(ha:0≤a)(hb:b=0):whN (bD (oD (aa neD) (vD 1) (cD (.int 0))))
 (aD (aH 2 (mk [false,false,false] (oD (aa cb) (vD 0) (vD 1))))
 (aD (aH 0 (mk [false,false,false] (vD 1)))
 (aH 1 (mk [false,false,false] (vD 2))))) (k+1) [some (.int a),some (.int b),o]=some (.nx [some (.int (Fr.G a b)),some (.int 0),o]):=by
 subst hb
 rw[whN]
 have e:Fr.G a 0=a:=Fr.G_zero ha
 rw[e]
 k_search(decide_true,Bool.not_true,Bool.false_eq_true)
theorem t9{a b:Int}{o:Option D}(k:Nat)(hb:0<b):whN (bD (oD (aa neD) (vD 1) (cD (.int 0))))
 (aD (aH 2 (mk [false,false,false] (oD (aa cb) (vD 0) (vD 1))))
 (aD (aH 0 (mk [false,false,false] (vD 1)))
 (aH 1 (mk [false,false,false] (vD 2))))) (k+1) [some (.int a),some (.int b),o]=whN (bD (oD (aa neD) (vD 1) (cD (.int 0))))
 (aD (aH 2 (mk [false,false,false] (oD (aa cb) (vD 0) (vD 1))))
 (aD (aH 0 (mk [false,false,false] (vD 1)))
 (aH 1 (mk [false,false,false] (vD 2))))) k [some (.int b),some (.int (a%b)),some (.int (a%b))]:=by
 rw[whN]
 have hne:¬(b=0):=by o_shape
 k_search(hne,decide_false,Bool.not_false)
theorem xK:∀(k:Nat) (a b:Int) (o:Option D),0≤a→0≤b→b<2^k→∃o',whN (bD (oD (aa neD) (vD 1) (cD (.int 0))))
 (aD (aH 2 (mk [false,false,false] (oD (aa cb) (vD 0) (vD 1))))
 (aD (aH 0 (mk [false,false,false] (vD 1)))
 (aH 1 (mk [false,false,false] (vD 2))))) (2*k+1) [some (.int a),some (.int b),o]=some (.nx [some (.int (Fr.G a b)),some (.int 0),o'])
 |0,a,b,o,ha,hb,hk=>⟨o,qk 0 ha (by rw[Int.pow_zero] at hk;o_shape)⟩
 |k+1,a,b,o,ha,hb,hk=>by
  by_cases h0:b=0
  · exact⟨o,qk _ ha h0⟩
  have m0:0≤a%b:=Int.emod_nonneg _ h0
  have m1:a%b<b:=Int.emod_lt_of_pos _ (by o_shape)
  have g1:Fr.G b (a%b)=Fr.G a b:=Fr.G_step (by o_shape)
  by_cases h1:a%b=0
  · refine⟨some (.int (a%b)), ?_⟩
    rw[show 2*(k+1)+1=2*k+1+1+1 from rfl,t9 _ (by o_shape),qk _ hb h1,g1]
  · have hh:=so (b:=b) (r:=a%b) (by o_shape) (by o_shape)
    have g2:Fr.G (a%b) (b%(a%b))=Fr.G b (a%b):=Fr.G_step (by o_shape)
    obtain⟨o',ih⟩:=xK k (a%b) (b%(a%b)) (some (.int (b%(a%b)))) m0 (Int.emod_nonneg _ h1) (by rw[Int.pow_succ] at hk;o_shape)
    refine⟨o', ?_⟩
    rw[show 2*(k+1)+1=2*k+1+1+1 from rfl,t9 _ (by o_shape),t9 _ (by o_shape),ih,g2,g1]
theorem vn{a:Int}:aa rk [.int a]=some (.int ((a.natAbs:Nat):Int)):=by
 rw[B3]
 congr 2
 split<;>omega
theorem Aw{a b:Int}:Fr.G ((a.natAbs:Nat):Int) ((b.natAbs:Nat):Int)=Fr.G a b:=by
 unfold Fr.G
 simp[Int.gcd]
theorem Ax{a b:Int}(hb:b.natAbs<1000000000000000000):cX [.int a, .int b]=some (.int (Fr.G a b)):=by
 rw[cX,ap]
 refine cA ?_
 show dQ [some (.int a),some (.int b),none]=_
 unfold dQ
 obtain⟨o',h⟩:=xK 60 ((a.natAbs:Nat):Int) ((b.natAbs:Nat):Int) none (by omega) (by omega) (by omega)
 have hw:=xb h (by omega)
 rw[Aw] at hw
 ktf_call(vn)
 ktf_call(vn)
 ktf_call(hw)
 k_search(hw)
theorem mT{a b:Int}(hb:0<b):Fr.low a b=(a/Fr.G a b,b/Fr.G a b):=by
 have:=Fr.G_pos (a:=a) (b:=b) (by o_shape)
 unfold Fr.low
 rw[Int.fdiv_eq_ediv_of_nonneg _ (by o_shape),Int.fdiv_eq_ediv_of_nonneg _ (by o_shape)]
theorem mv{a b:Int}(hb:0<b)(hb2:b<1000000000000000000):mq [.int a, .int b]=some (frD (Fr.low a b)):=by
 rw[mq,ap]
 refine cA ?_
 show mo [some (.int a),some (.int b),none]=_
 unfold mo
 have hg:=Ax (a:=a) (b:=b) (by o_shape)
 have g1:=Fr.G_pos (a:=a) (b:=b) (by o_shape)
 have g2:=Fr.G_le (a:=a) (b:=b) (by o_shape)
 rw[mT hb,frD]
 generalize Fr.G a b=g at*
 have hlt:¬b<0:=by o_shape
 ktf_call(hg)
 ktf_call(decide_eq_false hlt,Bool.false_eq_true)
 k_search(hg)
theorem nG{x y:D}{a b:Int}(k:Nat)(ha:0≤a)(hb:b=0):whN (bD (oD (aa neD) (vD 3) (cD (.int 0))))
 (rp 2 3 (mk [false,false,false,false] (ah (vD 3) (ah (oD (aa cb) (vD 2) (vD 3)) au)))) (k+1) [some x,some y,some (.int a),some (.int b)]=some (.nx [some x,some y,some (.int (Fr.G a b)),some (.int 0)]):=by
 subst hb
 rw[whN]
 have e:Fr.G a 0=a:=Fr.G_zero ha
 rw[e]
 k_search(decide_true,Bool.not_true,Bool.false_eq_true)
theorem qm{x y:D}{a b:Int}(k:Nat)(hb:0<b):whN (bD (oD (aa neD) (vD 3) (cD (.int 0))))
 (rp 2 3 (mk [false,false,false,false] (ah (vD 3) (ah (oD (aa cb) (vD 2) (vD 3)) au)))) (k+1) [some x,some y,some (.int a),some (.int b)]=whN (bD (oD (aa neD) (vD 3) (cD (.int 0))))
 (rp 2 3 (mk [false,false,false,false] (ah (vD 3) (ah (oD (aa cb) (vD 2) (vD 3)) au)))) k [some x,some y,some (.int b),some (.int (a%b))]:=by
 rw[whN]
 have hne:¬(b=0):=by o_shape
 k_search(rp,hne,decide_false,Bool.not_false)
theorem vo(x y:D):∀(k:Nat) (a b:Int),0≤a→0≤b→b<2^k→whN (bD (oD (aa neD) (vD 3) (cD (.int 0))))
 (rp 2 3 (mk [false,false,false,false] (ah (vD 3) (ah (oD (aa cb) (vD 2) (vD 3)) au)))) (2*k+1) [some x,some y,some (.int a),some (.int b)]=some (.nx [some x,some y,some (.int (Fr.G a b)),some (.int 0)])
 |0,a,b,ha,hb,hk=>nG 0 ha (by rw[Int.pow_zero] at hk;o_shape)
 |k+1,a,b,ha,hb,hk=>by
  by_cases h0:b=0
  · exact nG _ ha h0
  have m0:0≤a%b:=Int.emod_nonneg _ h0
  have m1:a%b<b:=Int.emod_lt_of_pos _ (by o_shape)
  have g1:Fr.G b (a%b)=Fr.G a b:=Fr.G_step (by o_shape)
  by_cases h1:a%b=0
  · rw[show 2*(k+1)+1=2*k+1+1+1 from rfl,qm _ (by o_shape),nG _ hb h1,g1]
  · have hh:=so (b:=b) (r:=a%b) (by o_shape) (by o_shape)
    have g2:Fr.G (a%b) (b%(a%b))=Fr.G b (a%b):=Fr.G_step (by o_shape)
    have ih:=vo x y k (a%b) (b%(a%b)) m0 (Int.emod_nonneg _ h1) (by rw[Int.pow_succ] at hk;o_shape)
    rw[show 2*(k+1)+1=2*k+1+1+1 from rfl,qm _ (by o_shape),qm _ (by o_shape),ih,g2,g1]
theorem vp{a b:Int}(hb:0<b)(hb2:b<1000000000000000000):iw [.int a, .int b]=some (frD (Fr.low a b)):=by
 rw[iw,ap]
 refine cA ?_
 show gv [some (.int a),some (.int b),none,none]=_
 unfold gv
 have h:=vo (.int a) (.int b) 60 ((a.natAbs:Nat):Int) ((b.natAbs:Nat):Int) (by omega) (by omega) (by omega)
 have hw:=xb h (by omega)
 rw[Aw] at hw
 have g1:=Fr.G_pos (a:=a) (b:=b) (by o_shape)
 have g2:=Fr.G_le (a:=a) (b:=b) (by o_shape)
 rw[mT hb,frD]
 generalize Fr.G a b=g at*
 have hlt:¬b<0:=by o_shape
 ktf_call(vn)
 ktf_call(vn)
 ktf_call(hw)
 ktf_call(decide_eq_false hlt,Bool.false_eq_true)
 k_search(hw)
def lG(p q:Int×Int):Int×Int:=Fr.low (p.1*q.2+q.1*p.2) (p.2*q.2)
structure Qok(B:Int)(p:Int×Int):Prop where
 pos:0<p.2
 le:p.2≤B
theorem qo{p:Int×Int}:atI [D.int p.1, .int p.2] 0=some (.int p.1):=ix0
theorem nH{p:Int×Int}:atI [D.int p.1, .int p.2] 1=some (.int p.2):=bS (n:=1) rfl
theorem wa{p q:Int×Int}{A B:Int}(hp:Qok A p)(hq:Qok B q)(hA:A<1000000000)(hB:B<1000000000)(hAB:A*B<1000000000000000000):qg [frD p,frD q]=some (frD (lG p q)):=by
 rw[qg,ap]
 refine cA ?_
 show mr [some (frD p),some (frD q)]=_
 unfold mr
 have b0:0<p.2*q.2:=Int.mul_pos hp.pos hq.pos
 have b1:p.2*q.2<1000000000000000000:=Int.lt_of_le_of_lt (Int.mul_le_mul hp.le hq.le (Int.le_of_lt hq.pos) (Int.le_trans (Int.le_of_lt hp.pos) hp.le)) hAB
 have hm:=mv (a:=p.1*q.2+q.1*p.2) b0 b1
 have p0:=hp.pos
 have p1:=hp.le
 have q0:=hq.pos
 have q1:=hq.le
 unfold lG
 unfold frD at hm ⊢
 k_search(aZ,qo,nH,hm)
theorem qp{a b:Int}(hb:0<b):Qok b (Fr.low a b):=by
 have g1:=Fr.G_pos (a:=a) (b:=b) (by o_shape)
 rw[mT hb]
 have hd:Fr.G a b ∣ b:=by unfold Fr.G;exact Int.gcd_dvd_right a b
 refine⟨?_, ?_⟩
 · show 0<b/Fr.G a b
   exact Int.ediv_pos_of_pos_of_dvd hb (Int.le_of_lt g1) hd
 · show b/Fr.G a b≤b
   exact Int.ediv_le_self _ (Int.le_of_lt hb)
theorem zu{p q:Int×Int}{A B:Int}(hp:Qok A p)(hq:Qok B q):Qok (A*B) (lG p q):=by
 have b0:0<p.2*q.2:=Int.mul_pos hp.pos hq.pos
 have h:=qp (a:=p.1*q.2+q.1*p.2) b0
 exact⟨h.pos,Int.le_trans h.le (Int.mul_le_mul hp.le hq.le (Int.le_of_lt hq.pos) (Int.le_trans (Int.le_of_lt hp.pos) hp.le))⟩
def SOk(s:Str):Prop:=PyData.canLay0 (.str s)=true
theorem B4{s:Str}(h:∀c∈Tx.cs s,c<1114112):SOk s:=by
 show (s.cps.all _)=true
 rw[←Array.all_toList,List.all_eq_true]
 intro c hc
 exact decide_eq_true (h c hc)
inductive Nums:Nat→D→Prop
 |int (k:Nat) (i:Int):Nums k (.int i)
 |str (k:Nat) {s:Str} (h:SOk s):Nums k (.str s)
 |bl (k:Nat) (b:Bool):Nums k (.bl b)
 |non (k:Nat):Nums k .non
 |lst {k:Nat} {xs:List D} (h:∀x∈xs,Nums k x):Nums (k+1) (.lst xs)
 |tup {k:Nat} {xs:List D} (h:∀x∈xs,Nums k x):Nums (k+1) (.tup xs)
theorem nI{k:Nat}(ih:∀d,Nums k d→∃y,jm d=some y∧PyData.canLay0 y=true∧PyData.depth y≤k):∀xs:List D,(∀x∈xs,Nums k x)→∃ys,toPys xs=some ys∧PyData.canLayAll0 ys=true∧PyData.depthAll ys≤k
 |[],_=>⟨[],rfl,rfl,Nat.zero_le _⟩
 |x::xs,h=>by
  obtain⟨y,h1,h2,h3⟩:=ih x (h x List.mem_cons_self)
  obtain⟨ys,g1,g2,g3⟩:=nI ih xs fun z hz=>h z (List.mem_cons_of_mem _ hz)
  refine⟨y::ys,by rw[toPys,h1,g1];rfl, ?_, ?_⟩
  · show (PyData.canLay0 y&&PyData.canLayAll0 ys)=true
    rw[h2,g2]
    rfl
  · show max (PyData.depth y) (PyData.depthAll ys)≤k
    omega
theorem lH:∀(k:Nat) (d:D),Nums k d→∃y,jm d=some y∧PyData.canLay0 y=true∧PyData.depth y≤k
 |k,_, .int _ i=>⟨.int i,rfl,rfl,Nat.zero_le _⟩
 |k,_, .str _ h=>⟨.str _,rfl,h,Nat.zero_le _⟩
 |k,_, .bl _ i=>⟨.bool i,rfl,rfl,Nat.zero_le _⟩
 |k,_, .non _=>⟨.none,rfl,rfl,Nat.zero_le _⟩
 |k+1,_, .lst (xs:=xs) h=>by
  obtain⟨ys,h1,h2,h3⟩:=nI (lH k) xs h
  exact⟨.list ys,by rw[jm,h1];rfl,h2,Nat.succ_le_succ h3⟩
 |k+1,_, .tup (xs:=xs) h=>by
  obtain⟨ys,h1,h2,h3⟩:=nI (lH k) xs h
  exact⟨.tuple ys,by rw[jm,h1];rfl,h2,Nat.succ_le_succ h3⟩
theorem xL{k:Nat}{d:D}(h:Nums k d)(hk:k≤64):eqX d d=some true:=by
 obtain⟨y,h1,h2,h3⟩:=lH k d h
 unfold eqX
 rw[h1,aB,aB]
 have s:SeqAt.shaped y=true:=by
  unfold SeqAt.shaped
  rw[h2,decide_eq_true (by o_shape)]
  rfl
 rw[if_pos ⟨s,s⟩,PySem.SeqAt.eqv_refl y h2]
theorem zv{k:Nat}{xs:List D}(h:Nums k (.lst xs))(hk:k≤64):aa neD (.lst xs) (.lst xs)=some (.bl false):=by
 rw[ap]
 show (eqX (.lst xs) (.lst xs)).map _=_
 rw[xL h hk]
 rfl
def kO(c f:Int):Int:=((c*f+12345)%2147483647)*((c*f+12345)%2147483647)%2147483629/3
theorem gc(c f:Int):0≤kO c f:=by unfold kO;o_shape
theorem nJ{c f:Int}(h0:0≤f)(h1:f<1000000):bP [.int c, .int f]=some (.int (kO c f)):=by
 rw[bP,ap]
 refine cA ?_
 show h7 [some (.int c),some (.int f),none]=_
 unfold h7 kO
 have m1:0≤(c*f+12345)%2147483647:=Int.emod_nonneg _ (by o_shape)
 have m2:(c*f+12345)%2147483647<2147483647:=Int.emod_lt_of_pos _ (by o_shape)
 ktf_call(h1)
 generalize (c*f+12345)%2147483647=m at m1 m2 ⊢
 k_search(h1)
def Br.t5(b:Br):D:= .tup [.str b.name, .int b.length, .int b.bears, .int b.wide, .int b.most]
structure Br.W5(b:Br):Prop where
 l1:1≤b.length
 l2:b.length≤1000
 b1:10≤b.bears
 b2:b.bears≤199
 n0:SOk b.name
abbrev bgE(c n:Int)(one:Int)(acc:List D)(o6 o7 o8 o9 o10:Option D):PD.Env:=[some (.int c),some (.int n),some (.str (Str.ofString "abcdefghijklmnopqrstuvwxyz")),some (.int one),some (.int (1+one%12)),some (.lst acc),o6,o7,o8,o9,o10]
def NmD(bs:List Br):Prop:=∀b∈bs,bs.find? (fun d=>decide (d.name=b.name))=some b
theorem B5{bs:List Br}(h:∀(i j:Nat) (b d:Br),bs[i]? =some b→bs[j]? =some d→b.name=d.name→i=j):NmD bs:=by
 intro b hb
 obtain⟨i,hi⟩:=List.mem_iff_getElem?.mp hb
 cases e:bs.find? (fun d=>decide (d.name=b.name)) with
 |none=>
  have:=List.find?_eq_none.mp e b hb
  simp at this
 |some d=>
  have hn:d.name=b.name:=by have:=List.find?_some e;simpa using this
  obtain⟨j,hj⟩:=List.mem_iff_getElem?.mp (List.mem_of_find?_eq_some e)
  have:=h j i d b hj hi hn
  subst this
  rw[hj] at hi
  exact hi
def Lt(one:Int)(bs:List Br):Prop:=∀(k:Nat) (b:Br),bs[k]? =some b→∃ch:Nat,(ch:Int)=97+(one/12+(k:Int))%26∧b.name=Txt.mul ⟨#[ch]⟩ (1+one%12)
def NmI(bs:List Br):Prop:=∀(i j:Nat) (b d:Br),bs[i]? =some b→bs[j]? =some d→b.name=d.name→i=j
theorem Lt.nd{one:Int}{bs:List Br}(h:Lt one bs)(h0:0≤one)(hl:bs.length≤26):NmI bs:=fun i j b d hi hj hn=>by
 obtain⟨c1,e1,n1⟩:=h i b hi
 obtain⟨c2,e2,n2⟩:=h j d hj
 have il:=(List.getElem?_eq_some_iff.mp hi).1
 have jl:=(List.getElem?_eq_some_iff.mp hj).1
 rw[n1,n2] at hn
 have q:=congrArg Tx.cs hn
 rw[t8,t8] at q
 obtain⟨z,hz⟩:∃z:Nat,one%12=(z:Int):=⟨_,itn mlo⟩
 obtain⟨m,hm⟩:∃m,(1+one%12).toNat=m+1:=⟨z,by rw[hz,Int.add_comm];rfl⟩
 rw[hm,List.replicate_succ,List.replicate_succ] at q
 have:=(List.cons.inj q).1
 omega
theorem B6{c:Int}{n:Nat}(hn:n≤26):∃bs:List Br,bs.length=n∧(∀b∈bs,b.W5)∧NmI bs∧e9 [.int c, .int (n:Int)]=some (.lst (bs.map Br.t5)):=by
 have h1:=nJ (c:=c) (f:=48271) (by o_shape) (by o_shape)
 have nn:=gc c 48271
 generalize kO c 48271=one at h1 nn
 obtain⟨e',hloop,bs,o6,o7,o8,o9,o10,hl,hb,hlt,rfl⟩:=gT (g:=nmG 6) (b:=lB2) (ds:=(List.range n).map fun(i:Nat)=>D.int (0+(i:Int)))
  (env:=bgE c n one [] none none none none none)
  (fun i e=>∃bs o6 o7 o8 o9 o10,bs.length=i∧(∀b∈bs,b.W5)∧Lt one bs∧e=bgE c n one (bs.map Br.t5) o6 o7 o8 o9 o10)
  ⟨[],none,none,none,none,none,rfl,fun b h=>absurd h List.not_mem_nil,(fun k b h=>by cases h),rfl⟩ (by
    rintro i d e hd ⟨bs,o6,o7,o8,o9,o10,hl,hb,hlt,rfl⟩
    rw[List.getElem?_map] at hd
    obtain⟨k,hk,rfl⟩:=Option.map_eq_some_iff.mp hd
    obtain⟨hk8,hk⟩:=List.getElem?_eq_some_iff.mp hk
    rw[List.getElem_range] at hk
    subst hk
    have hin:i<n:=by simpa using hk8
    have h2:=nJ (c:=c+7*(i:Int)) (f:=69621) (by o_shape) (by o_shape)
    have nn2:=gc (c+7*(i:Int)) 69621
    have h3:=nJ (c:=c+(i:Int)) (f:=39373) (by o_shape) (by o_shape)
    have nn3:=gc (c+(i:Int)) 39373
    generalize kO (c+7*(i:Int)) 69621=two at h2 nn2
    generalize kO (c+(i:Int)) 39373=thr at h3 nn3
    obtain⟨x,hx,l,rfl,l1,l2⟩:=Du (n:=5) (xs:=[.int (1+two%12), .int (20+two%200), .int (1+two%1000)]) (i:=two/1000%3) (Pv:=At 1 1000) (by o_shape) (by show two/1000%3<3;o_shape) (by
     intro x hx
     simp only[List.mem_cons,List.not_mem_nil,or_false] at hx
     rcases hx with rfl|rfl|rfl<;>exact⟨_,rfl,by o_shape,by o_shape⟩)
    obtain⟨ch,hch,hcv⟩:=B1 (i:=(one/12+(i:Int))%26) (by o_shape) (by o_shape)
    have hmul:=B2 (a:=(⟨#[ch]⟩:Str)) (n:=1+one%12) ⟨by show 1≤16;o_shape,by o_shape,by o_shape⟩
    have q:bs.length<1000000:=by rw[hl];exact Nat.lt_trans hin (nlt hn)
    refine⟨_,rfl,bgE c n one ((bs++[Br.mk (Txt.mul ⟨#[ch]⟩ (1+one%12)) l (10+thr%190) (1+two/3000%200) 10000000]).map Br.t5) (some (.int (0+(i:Int)))) (some (.int two)) (some (.int l)) (some (.int (10+thr%190))) (some (.str (Txt.mul ⟨#[ch]⟩ (1+one%12)))), ?_,bs++[Br.mk (Txt.mul ⟨#[ch]⟩ (1+one%12)) l (10+thr%190) (1+two/3000%200) 10000000],_,_,_,_,_,by simp[hl],fun b h=> ?_,fun k b h=> ?_,rfl⟩
    · generalize hk7:c+7*(i:Int)=k7 at h2
      generalize hk1:c+(i:Int)=k1 at h3
      ktf_call(Int.zero_add,hk7,h2)
      ktf_call(hx,jK)
      ktf_call(Int.zero_add,hk1,h3)
      ktf_call(Int.zero_add,hch,hmul)
      k_search(bgE,Int.zero_add,q,List.map_append,List.map_cons,List.map_nil,Br.t5)
    · rcases List.mem_append.mp h with h|h
      · exact hb b h
      · cases List.mem_singleton.mp h
        exact⟨l1,l2,by show 10≤10+thr%190;o_shape,by show 10+thr%190≤199;o_shape,B4 fun x hx=>by rw[t8] at hx;rw[(List.mem_replicate.mp hx).2];exact Int.ofNat_lt.mp (show ((ch:Nat):Int)<((1114112:Nat):Int) from by rw[hcv];exact Int.lt_of_le_of_lt (mle (m:=122)) (by decide))⟩
    · by_cases hk:k<bs.length
      · rw[List.getElem?_append_left hk] at h
        exact hlt k b h
      · rw[List.getElem?_append_right (Nat.not_lt.mp hk)] at h
        have hz:k-bs.length=0:=by
         have:=(List.getElem?_eq_some_iff.mp h).1
         simp at this
         omega
        rw[hz] at h
        cases h
        exact⟨ch,by rw[hcv,show k=i from by o_shape],rfl⟩
    )
 rw[List.length_map,List.length_range] at hl
 refine⟨bs,hl,hb,hlt.nd nn (by rw[hl];exact hn), ?_⟩
 rw[e9,ap]
 refine bR ?_
 show dM [some (.int c),some (.int n),none,none,none,none,none,none,none,none,none]=_
 unfold dM
 have hr:aa iG [.int (n:Int)]=some ((List.range n).map fun(i:Nat)=>D.int (0+(i:Int))):=by
  have:=ko (j:=(n:Int)) (by o_shape)
  rw[Int.toNat_natCast] at this
  exact this
 rw[bgE] at hloop
 ktf_call(h1)
 ktf_call(h1)
 ktf_call(h1)
 ktf_call(h1)
 ktf_call(hr,hloop)
 k_search(h1)
theorem DH{c:Int}{n:Nat}(hn:n≤26):∃bs:List Br,bs.length=n∧(∀b∈bs,b.W5)∧NmD bs∧e9 [.int c, .int (n:Int)]=some (.lst (bs.map Br.t5)):=by
 obtain⟨bs,h1,h2,h3,h4⟩:=B6 (c:=c) hn
 exact⟨bs,h1,h2,B5 h3,h4⟩
def eG(bs:List Br)(sh:List (Str×Int×Int)):Rod:=⟨200+(bs.length:Int),bs.map fun b=>(b,200+b.length/7),[],sh⟩
theorem DI{sh:List (Str×Int×Int)}{bs:List Br}(hl:bs.length≤6):jz [.lst (bs.map Br.t5), .lst [], .lst (sh.map shT)]=some (eG bs sh).o:=by
 rw[jz,ap]
 refine cA ?_
 show gt [some (.lst (bs.map Br.t5)),some (.lst []),some (.lst (sh.map shT)),none,none,none,none,none,none]=_
 unfold gt
 obtain⟨e',hloop,o4,o5,o6,o7,o8,rfl⟩:=gT (g:=gU [4,5,6,7,8]) (b:=(aH 3 (mk Fe (oD (aa ba) (vD 3) (fQ (ah (im .Bridge jU (ah (vD 4) (ah (vD 5) (ah (vD 6) (ah (vD 7) (ah (vD 8) au)))))) (ah (im .Open kN (ah (oD (aa ba) (cD (.int 200)) (oD (aa cZ) (vD 5) (cD (.int 7)))) au)) au))))))) (ds:=bs.map Br.t5)
  (env:=[some (.lst (bs.map Br.t5)),some (.lst []),some (.lst (sh.map shT)),some (.lst [opO (200+(bs.length:Int))]),none,none,none,none,none])
  (fun i e=>∃o4 o5 o6 o7 o8,e=[some (.lst (bs.map Br.t5)),some (.lst []),some (.lst (sh.map shT)),some (.lst ((Pc.op (200+(bs.length:Int))::bsP ((bs.take i).map fun b=>(b,200+b.length/7))).map Pc.o)),o4,o5,o6,o7,o8])
  ⟨none,none,none,none,none,rfl⟩ (by
   rintro i d e hd ⟨o4,o5,o6,o7,o8,rfl⟩
   rw[List.getElem?_map] at hd
   obtain⟨b,hb,rfl⟩:=Option.map_eq_some_iff.mp hd
   have hi:=(List.getElem?_eq_some_iff.mp hb).1
   refine⟨_,rfl, ?_⟩
   have hcat:aa ba (.lst ((Pc.op (200+(bs.length:Int))::bsP ((bs.take i).map fun b=>(b,200+b.length/7))).map Pc.o)) (.lst [b.o,opO (200+b.length/7)])=some (.lst ((Pc.op (200+(bs.length:Int))::bsP ((bs.take (i+1)).map fun b=>(b,200+b.length/7))).map Pc.o)):=by
    rw[ap]
    show (if _ then _ else _)=_
    rw[if_pos (by
     rw[List.length_map,List.length_cons,qj,List.length_map,List.length_take]
     show _+2≤_
     omega)]
    rw[List.take_add_one,hb,Option.toList_some,List.map_append (l₁:=List.take i bs)]
    show some (D.lst (_++_))=some (D.lst ((Pc.op _::bsP (_++[(b,200+b.length/7)])).map Pc.o))
    rw[vk]
    simp[Pc.o]
   refine⟨[some (.lst (bs.map Br.t5)),some (.lst []),some (.lst (sh.map shT)),some (.lst ((Pc.op (200+(bs.length:Int))::bsP ((bs.take (i+1)).map fun b=>(b,200+b.length/7))).map Pc.o)),some (.str b.name),some (.int b.length),some (.int b.bears),some (.int b.wide),some (.int b.most)], ?_,_,_,_,_,_,rfl⟩
   have mk1:im .Bridge jU (ah (vD 4) (ah (vD 5) (ah (vD 6) (ah (vD 7) (ah (vD 8) au))))) [some (.lst (bs.map Br.t5)),some (.lst []),some (.lst (sh.map shT)),some (.lst ((Pc.op (200+(bs.length:Int))::bsP ((bs.take i).map fun b=>(b,200+b.length/7))).map Pc.o)),some (.str b.name),some (.int b.length),some (.int b.bears),some (.int b.wide),some (.int b.most)]=some b.o:=by
    simp only[im,ah,au,gJ,jM,aB,Eb,Option.map_some]
    rfl
   have mk2:im .Open kN (ah (oD (aa ba) (cD (.int 200)) (oD (aa cZ) (vD 5) (cD (.int 7)))) au) [some (.lst (bs.map Br.t5)),some (.lst []),some (.lst (sh.map shT)),some (.lst ((Pc.op (200+(bs.length:Int))::bsP ((bs.take i).map fun b=>(b,200+b.length/7))).map Pc.o)),some (.str b.name),some (.int b.length),some (.int b.bears),some (.int b.wide),some (.int b.most)]=some (opO (200+b.length/7)):=by
    have:=r9 (i:=b.length) (j:=7) (by o_shape)
    simp only[im,ah,au,gJ,jM,oD,cD,aB,this,qi,DG,Option.map_some]
    rfl
   k_search(mk1,mk2,hcat)
   )
 rw[List.length_map,List.take_of_length_le (Nat.le_refl _)] at hloop
 have hmk:im .Open kN (ah (oD (aa ba) (cD (.int 200)) (av (aa jQ) (ah (vD 0) au))) au) [some (.lst (bs.map Br.t5)),some (.lst []),some (.lst (sh.map shT)),none,none,none,none,none,none]=some (opO (200+(bs.length:Int))):=by
  simp only[im,ah,au,gJ,jM,oD,cD,av,aB,xF,List.length_map,qi,DG,Option.map_some]
  rfl
 have hR:im .Road qf (ah (vD 3) (ah (vD 1) (ah (vD 2) au))) [some (.lst (bs.map Br.t5)),some (.lst []),some (.lst (sh.map shT)),some (.lst ((Pc.op (200+(bs.length:Int))::bsP (bs.map fun b=>(b,200+b.length/7))).map Pc.o)),o4,o5,o6,o7,o8]=some (eG bs sh).o:=by
  simp only[im,ah,au,gJ,jM,aB,Ec,Option.map_some]
  rfl
 ktf_call(hmk)
 ktf_call(aW,hloop)
 k_search(hR)
theorem xM{sh:List (Str×Int×Int)}{bs:List Br}(hl:bs.length≤6):(eG bs sh).pcs.length<1000:=by
 show (bsP _).length+1<1000
 rw[qj]
 show 2*(bs.map _).length+1<1000
 rw[List.length_map]
 omega
theorem Ay{sh:List (Str×Int×Int)}{bs:List Br}{n:Str}{b:Br}(hl:bs.length≤6)(hf:bs.find? (fun c=>decide (c.name=n))=some b):gS [(eG bs sh).o, .str n]=some b.o:=by
 rw[gS,ap]
 refine cA ?_
 show fN [some (eG bs sh).o,some (.str n)]=_
 unfold fN
 have hb:=v9 (xM (sh:=sh) hl)
 have e:(eG bs sh).bs.map (fun x=>x.1.o)=bs.map Br.o:=by
  show (bs.map _).map _=_
  rw[List.map_map]
  rfl
 rw[e] at hb
 have hcomp:bN (itD (av fZ (ah (vD 0) au))) (bD (oD (aa eqD) (uD (aa (jL .name)) (vD 0)) (vD 1))) (vD 0) [1] [some (eG bs sh).o,some (.str n)]=some (.lst ((bs.filter fun c=>decide (c.name=n)).map Br.o)):=by
  unfold bN
  simp only[itD,av,ah,au,gJ,jM,aB,hb,aW]
  rw[if_pos (by rw[List.length_map];o_shape),j6 (p:=fun c:Br=>decide (c.name=n)) (f:=Br.o)]
  · rfl
  · intro c _
    refine⟨?_,fun _=>rfl⟩
    show bD _ [some c.o,some (.str n)]=_
    have g1:aa (jL .name) c.o=some (.str c.name):=sj rfl
    simp only[bD,oD,uD,gJ,jM,aB,g1,xE]
 have hix:atI ((bs.filter fun c=>decide (c.name=n)).map Br.o) 0=some b.o:=by
  have h0:(bs.filter fun c=>decide (c.name=n))[0]? =some b:=by rw[←List.head?_eq_getElem?,List.head?_filter];exact hf
  exact bS (n:=0) (by rw[List.getElem?_map,h0];rfl)
 unfold bC
 simp only[oD,cD,hcomp,aB,jK,hix]
structure Wh where
 gap:Int
 low:Int
 high:Int
def Wh.t(w:Wh):D:= .tup [.int w.gap, .int w.low, .int w.high]
structure Wh.WF(w:Wh)(m:Int):Prop where
 g1:1≤w.gap
 g2:w.gap≤40
 l0:0≤w.low
 lh:w.low≤w.high
 hm:w.high≤m
abbrev whE(c bears one:Int)(many:Int)(acc:List D)(o5 o6 o7:Option D):PD.Env:=[some (.int c),some (.int bears),some (.int one),some (.int many),some (.lst acc),o5,o6,o7]
theorem DJ{c bears:Int}(hb:0≤bears)(hb2:bears<1000000):∃ws:List Wh,1≤ws.length∧ws.length≤4∧(∀w∈ws,w.WF bears∧w.high≤bears/(ws.length:Int))∧g8 [.int c, .int bears]=some (.lst (ws.map Wh.t)):=by
 have h1:=nJ (c:=c) (f:=16807) (by o_shape) (by o_shape)
 have nn:=gc c 16807
 generalize kO c 16807=one at h1 nn
 obtain⟨n,hn⟩:∃n:Nat,1+one%3=(n:Int):=⟨(1+one%3).toNat,by o_shape⟩
 have n1:1≤n:=nlb hn
 have n4:n≤4:=nub hn
 obtain⟨e',hloop,ws,o5,o6,o7,hl,hw,rfl⟩:=gT (g:=nmG 5) (b:=lB5) (ds:=(List.range n).map fun(i:Nat)=>D.int (0+(i:Int)))
  (env:=whE c bears one n [] none none none)
  (fun i e=>∃ws o5 o6 o7,ws.length=i∧(∀w∈ws,w.WF bears∧w.high≤bears/(n:Int))∧e=whE c bears one n (ws.map Wh.t) o5 o6 o7)
  ⟨[],none,none,none,rfl,fun b h=>absurd h List.not_mem_nil,rfl⟩ (by
    rintro i d e hd ⟨ws,o5,o6,o7,hl,hw,rfl⟩
    rw[List.getElem?_map] at hd
    obtain⟨k,hk,rfl⟩:=Option.map_eq_some_iff.mp hd
    obtain⟨hk8,hk⟩:=List.getElem?_eq_some_iff.mp hk
    rw[List.getElem_range] at hk
    subst hk
    have hin:i<n:=by simpa using hk8
    have h2:=nJ (c:=c+31*(i:Int)) (f:=40692) (by o_shape) (by o_shape)
    have nn2:=gc (c+31*(i:Int)) 40692
    generalize kO (c+31*(i:Int)) 40692=two at h2 nn2
    generalize hk31:c+31*(i:Int)=k31 at h2
    have q:ws.length<1000000:=by rw[hl];exact Nat.lt_trans hin (nlt n4)
    have d1:0≤bears/(n:Int):=Int.ediv_nonneg hb (Int.natCast_nonneg n)
    have d2:bears/(n:Int)≤bears:=Int.ediv_le_self _ hb
    have hfd:=je (i:=bears) (j:=(n:Int)) ⟨(Int.ofNat_lt (n:=0)).mpr n1,ilt (Int.ofNat_le.mpr n4)⟩
    generalize bears/(n:Int)=cF at d1 d2 hfd hw ⊢
    have e1:0≤two%(cF+1):=Int.emod_nonneg _ (by o_shape)
    have e2:two%(cF+1)<cF+1:=Int.emod_lt_of_pos _ (by o_shape)
    have fin:∀hi:Int,0≤hi→hi≤cF→Wh.WF ⟨1+two/3000%40,hi-two/300000%(hi+1),hi⟩ bears∧hi≤cF:=fun hi a b=>by
     have f1:0≤two/300000%(hi+1):=Int.emod_nonneg _ (by o_shape)
     have f2:two/300000%(hi+1)<hi+1:=Int.emod_lt_of_pos _ (by o_shape)
     exact⟨⟨by show 1≤1+two/3000%40;o_shape,by show 1+two/3000%40≤40;o_shape,by show 0≤hi-two/300000%(hi+1);exact Int.sub_nonneg.mpr (Int.le_of_lt_add_one f2),by show hi-two/300000%(hi+1)≤hi;exact Int.sub_le_self _ f1,Int.le_trans b d2⟩,b⟩
    have mem:∀{w0:Wh},w0.WF bears∧w0.high≤cF→∀w∈ws++[w0],w.WF bears∧w.high≤cF:=fun {w0} h0 w h=>by
     rcases List.mem_append.mp h with h|h
     · exact hw w h
     · cases List.mem_singleton.mp h;exact h0
    refine⟨_,rfl, ?_⟩
    by_cases h3:two/1000%3=0
    · refine⟨whE c bears one n ((ws++[Wh.mk (1+two/3000%40) (cF-two/300000%(cF+1)) cF]).map Wh.t) (some (.int (0+(i:Int)))) (some (.int two)) (some (.int cF)), ?_,ws++[Wh.mk (1+two/3000%40) (cF-two/300000%(cF+1)) cF],_,_,_,by simp[hl],mem (fin cF d1 (Int.le_refl _)),rfl⟩
      ktf_call(Int.zero_add,hk31,h2)
      ktf_call(hfd)
      ktf_call(h3,decide_true,hfd)
      k_search(whE,Int.zero_add,q,List.map_append,List.map_cons,List.map_nil,Wh.t)
    · refine⟨whE c bears one n ((ws++[Wh.mk (1+two/3000%40) (two%(cF+1)-two/300000%(two%(cF+1)+1)) (two%(cF+1))]).map Wh.t) (some (.int (0+(i:Int)))) (some (.int two)) (some (.int (two%(cF+1)))), ?_,ws++[Wh.mk (1+two/3000%40) (two%(cF+1)-two/300000%(two%(cF+1)+1)) (two%(cF+1))],_,_,_,by simp[hl],mem (fin _ e1 (Int.le_of_lt_add_one e2)),rfl⟩
      ktf_call(Int.zero_add,hk31,h2)
      ktf_call(hfd)
      ktf_call(h3,decide_false,hfd)
      generalize two%(cF+1)=hi at e1 e2 ⊢
      k_search(whE,Int.zero_add,q,List.map_append,List.map_cons,List.map_nil,Wh.t)
    )
 rw[List.length_map,List.length_range] at hl
 refine⟨ws,by rw[hl];exact n1,by rw[hl];exact n4,by rw[hl];exact hw, ?_⟩
 rw[g8,ap]
 refine bR ?_
 show eR [some (.int c),some (.int bears),none,none,none,none,none,none]=_
 unfold eR
 have hr:aa iG [.int (n:Int)]=some ((List.range n).map fun(i:Nat)=>D.int (0+(i:Int))):=by
  have:=ko (j:=(n:Int)) (by o_shape)
  rw[Int.toNat_natCast] at this
  exact this
 rw[whE] at hloop
 ktf_call(h1)
 ktf_call(hn)
 ktf_call(hn)
 ktf_call(hr,hloop)
 k_search(hn)
def jF(a:Int):List Wh→List Int
 |[]=>[]
 |w::r=>(a+w.gap)::jF (a+w.gap) r
def j7:List Wh→List Int
 |[]=>[]
 |_::r=>0::jF 0 r
theorem B7{w:Wh}:atI [D.int w.gap, .int w.low, .int w.high] 0=some (.int w.gap):=ix0
theorem B8{w0:Wh}{ws:List Wh}(hl:ws.length<1000):ff [.lst ((w0::ws).map Wh.t)]=some (.lst ((j7 (w0::ws)).map .int)):=by
 rw[ff,ap]
 refine bR ?_
 show dP [some (.lst ((w0::ws).map Wh.t)),none,none,none,none,none]=_
 unfold dP
 have main:∀(vs:List Wh) (a:Int) (acc:List Int) (o3 o4 o5:Option D),acc.length+vs.length<100000→∃a' q3 q4 q5,bE (gU [3,4,5]) ((aD (aH 1 (mk Fh (oD (aa ba) (vD 1) (vD 3)))) (ft 2 (mk Fh (vD 1))))) (vs.map Wh.t) [some (.lst ((w0::ws).map Wh.t)),some (.int a),some (.lst (acc.map .int)),o3,o4,o5]=some (.nx [some (.lst ((w0::ws).map Wh.t)),some (.int a'),some (.lst ((acc++jF a vs).map .int)),q3,q4,q5]):=by
  intro vs
  induction vs with
  |nil=>intro a acc o3 o4 o5 _;exact⟨a,o3,o4,o5,by rw[jF,List.append_nil];rfl⟩
  |cons w vs ih=>
   intro a acc o3 o4 o5 hlen
   obtain⟨a',p3,p4,p5,h⟩:=ih (a+w.gap) (acc++[a+w.gap]) (some (.int w.gap)) (some (.int w.low)) (some (.int w.high)) (by rw[List.length_append,List.length_singleton];rw[List.length_cons] at hlen;o_shape)
   refine⟨a',p3,p4,p5, ?_⟩
   rw[List.append_assoc] at h
   rw[List.map_cons,bE]
   have hb:((aD (aH 1 (mk Fh (oD (aa ba) (vD 1) (vD 3)))) (ft 2 (mk Fh (vD 1))))) [some (.lst ((w0::ws).map Wh.t)),some (.int a),some (.lst (acc.map .int)),some (.int w.gap),some (.int w.low),some (.int w.high)]=some (.nx [some (.lst ((w0::ws).map Wh.t)),some (.int (a+w.gap)),some (.lst ((acc++[a+w.gap]).map .int)),some (.int w.gap),some (.int w.low),some (.int w.high)]):=by
    have q:acc.length<1000000:=by o_shape
    k_search(q,List.map_append,List.map_cons,List.map_nil)
   simp only[Wh.t,gU,kG,List.set_cons_zero,List.set_cons_succ,aB,hb]
   exact h
 obtain⟨a',o3,o4,o5,h⟩:=main ws 0 [0] none none none (by simp;o_shape)
 have hcut:aa nc (.lst ((w0::ws).map Wh.t)) (some 1) none=some (.lst (ws.map Wh.t)):=by
  rw[ap]
  show some (D.lst (m9 _ _ _))=_
  have:=lF (f:=Wh.t) (xs:=w0::ws) (lo:=some ((1:Nat):Int)) (hi:=none)
  have e:((1:Nat):Int)=1:=rfl
  rw[e] at this
  rw[this]
  have c1:si (w0::ws) (some ((1:Nat):Int)) none=ws:=by
   unfold si
   rw[HT.sIx_nat,HT.sIx_none]
   have:min 1 (w0::ws).length=1:=by rw[List.length_cons];o_shape
   rw[this]
   simp
  rw[e] at c1
  rw[c1]
 ktf_call(hcut)
 ktf_call(hcut)
 have hz:([0]:List Int).map D.int=[.int 0]:=rfl
 rw[hz] at h
 ktf_call(aW,hcut,h)
 k_search(j7,List.singleton_append)
theorem wb:∀(ws:List Wh) (a:Int) (acc:List Int),acc.getLast?=some a→(acc++jF a ws).length=acc.length+ws.length:=by
 intro ws
 induction ws with
 |nil=>intro a acc _;simp[jF]
 |cons w ws ih=>intro a acc h;rw[jF,←List.singleton_append,←List.append_assoc,ih (a+w.gap) (acc++[a+w.gap]) (by simp)];simp;o_shape
theorem zw{acc:List Int}{a:Int}(h:acc.getLast?=some a):atI (acc.map D.int) (-1)=some (.int a):=by
 have hne:1≤acc.length:=by
  cases acc with
  |nil=>cases h
  |cons x r=>simp
 unfold atI ixN
 rw[if_neg (by o_shape),if_pos (by rw[List.length_map];o_shape),List.length_map]
 show (acc.map D.int)[((-1:Int)+(acc.length:Int)).toNat]? =_
 rw[show ((-1:Int)+(acc.length:Int)).toNat=acc.length-1 from by o_shape,List.getElem?_map,←List.getLast?_eq_getElem?,h]
 rfl
theorem B9{ws:List Wh}(hl:ws.length<1000):g9 [.lst (ws.map Wh.t)]=some (.lst ((j7 ws).map .int)):=by
 rw[g9,ap]
 refine bR ?_
 show eS [some (.lst (ws.map Wh.t)),none,none]=_
 unfold eS
 have main:∀(vs:List Wh) (a:Int) (acc:List Int) (o2:Option D),acc.getLast?=some a→acc.length+vs.length<100000→∃q2,bE (nmG 2) ((pN 1 (ifD (trD (vD 1)) (oD (aa ba) (oD (aa ixD) (vD 1) (uD (aa pH) (cD (.int 1)))) (oD (aa ixD) (vD 2) (cD (.int 0)))) (cD (.int 0))))) (vs.map Wh.t) [some (.lst (ws.map Wh.t)),some (.lst (acc.map .int)),o2]=some (.nx [some (.lst (ws.map Wh.t)),some (.lst ((acc++jF a vs).map .int)),q2]):=by
  intro vs
  induction vs with
  |nil=>intro a acc o2 _ _;exact⟨o2,by rw[jF,List.append_nil];rfl⟩
  |cons w vs ih=>
   intro a acc o2 hlast hlen
   obtain⟨q2,h⟩:=ih (a+w.gap) (acc++[a+w.gap]) (some w.t) (by simp) (by rw[List.length_append,List.length_singleton];rw[List.length_cons] at hlen;o_shape)
   refine⟨q2, ?_⟩
   rw[List.append_assoc] at h
   rw[List.map_cons,bE]
   have hb:((pN 1 (ifD (trD (vD 1)) (oD (aa ba) (oD (aa ixD) (vD 1) (uD (aa pH) (cD (.int 1)))) (oD (aa ixD) (vD 2) (cD (.int 0)))) (cD (.int 0))))) [some (.lst (ws.map Wh.t)),some (.lst (acc.map .int)),some w.t]=some (.nx [some (.lst (ws.map Wh.t)),some (.lst ((acc++[a+w.gap]).map .int)),some w.t]):=by
    have q:acc.length<1000000:=by o_shape
    have tr:Bu (.lst (acc.map D.int))=some true:=by
     cases acc with
     |nil=>cases hlast
     |cons x r=>rfl
    have hx:=zw hlast
    k_search(ifD,trD,tr,jK,hx,Wh.t,aZ,B7,D.flat,q,List.map_append,List.map_cons,List.map_nil)
   simp only[nmG,List.set_cons_zero,List.set_cons_succ,aB,hb]
   exact h
 cases ws with
 |nil=>
  k_search(aW,List.map_nil,bE,j7)
 |cons w ws=>
  obtain⟨q2,h⟩:=main ws 0 [0] (some w.t) rfl (by simp at hl ⊢;o_shape)
  have hb:((pN 1 (ifD (trD (vD 1)) (oD (aa ba) (oD (aa ixD) (vD 1) (uD (aa pH) (cD (.int 1)))) (oD (aa ixD) (vD 2) (cD (.int 0)))) (cD (.int 0))))) [some (.lst ((w::ws).map Wh.t)),some (.lst []),some w.t]=some (.nx [some (.lst ((w::ws).map Wh.t)),some (.lst [.int 0]),some w.t]):=by
   have tr:Bu (.lst [])=some false:=rfl
   have q:(0:Nat)<1000000:=by decide
   k_search(ifD,trD,tr,Bool.false_eq_true,D.flat,q,List.nil_append)
  have hz:([0]:List Int).map D.int=[.int 0]:=rfl
  rw[hz] at h
  have hloop:bE (nmG 2) ((pN 1 (ifD (trD (vD 1)) (oD (aa ba) (oD (aa ixD) (vD 1) (uD (aa pH) (cD (.int 1)))) (oD (aa ixD) (vD 2) (cD (.int 0)))) (cD (.int 0))))) ((w::ws).map Wh.t) [some (.lst ((w::ws).map Wh.t)),some (.lst []),none]=some (.nx [some (.lst ((w::ws).map Wh.t)),some (.lst ((0::jF 0 ws).map .int)),q2]):=by
   conv=>lhs;rw[List.map_cons,bE]
   rw[List.map_cons] at hb h
   simp only[nmG,List.set_cons_zero,List.set_cons_succ,aB,hb]
   exact h
  ktf_call(hl)
  ktf_call(aW,hloop)
  k_search(j7)
def tm(e:Int×Int)(v len o:Int):(Int×Int)×(Int×Int):=(lG e (Fr.low o v),lG (lG e (Fr.low o v)) (Fr.low len v))
def tmD(t:(Int×Int)×(Int×Int)):D:= .tup [frD t.1,frD t.2]
theorem mI{p:Int×Int}{A d v:Int}(hp:Qok A p)(hA:A<10000000)(v1:1≤v)(v2:v≤12):jW [frD p, .int d, .int v]=some (frD (lG p (Fr.low d v))):=by
 rw[jW,ap]
 refine cA ?_
 show jd [some (frD p),some (.int d),some (.int v)]=_
 unfold jd
 have hv:=qp (a:=d) (b:=v) (by o_shape)
 have h1:=mv (a:=d) (b:=v) (by o_shape) (by o_shape)
 have hAv:A*v<1000000000:=by
  have:A*v≤A*12:=Int.mul_le_mul_of_nonneg_left v2 (Int.le_trans (Int.le_of_lt hp.pos) hp.le)
  omega
 have h2:=wa hp hv (by o_shape) (by o_shape) (by o_shape)
 k_search(h1,h2)
structure Cr where
 b:Br
 e:Int×Int
 v:Int
 ws:List Wh
def Cr.t(c:Cr):D:= .tup [.str c.b.name,frD c.e, .int c.v, .lst (c.ws.map Wh.t)]
structure Cr.WF(c:Cr)(bs:List Br):Prop where
 f:bs.find? (fun d=>decide (d.name=c.b.name))=some c.b
 e:Qok 27720 c.e
 v1:1≤c.v
 v2:c.v≤12
 w1:1≤c.ws.length
 w4:c.ws.length≤4
def Cr.tms(c:Cr):List ((Int×Int)×(Int×Int)):=(j7 c.ws).map (tm c.e c.v c.b.length)
theorem cr0{c:Cr}:atI [D.str c.b.name,frD c.e, .int c.v, .lst (c.ws.map Wh.t)] 0=some (.str c.b.name):=ix0
theorem cr1{c:Cr}:atI [D.str c.b.name,frD c.e, .int c.v, .lst (c.ws.map Wh.t)] 1=some (frD c.e):=bS (n:=1) rfl
theorem cr2{c:Cr}:atI [D.str c.b.name,frD c.e, .int c.v, .lst (c.ws.map Wh.t)] 2=some (.int c.v):=bS (n:=2) rfl
theorem cr3{c:Cr}:atI [D.str c.b.name,frD c.e, .int c.v, .lst (c.ws.map Wh.t)] 3=some (.lst (c.ws.map Wh.t)):=bS (n:=3) rfl
theorem nK{ws:List Wh}:(j7 ws).length=ws.length:=by
 cases ws with
 |nil=>rfl
 |cons w ws=>
  have:=wb ws 0 [0] rfl
  rw[List.singleton_append] at this
  show (0::jF 0 ws).length=_
  rw[this]
  simp
  omega
theorem zz{sh:List (Str×Int×Int)}{bs:List Br}{c:Cr}(hl:bs.length≤6)(wf:c.WF bs):gz [(eG bs sh).o,c.t]=some (.lst (c.tms.map tmD)):=by
 rw[gz,ap]
 refine bR ?_
 show gw [some (eG bs sh).o,some c.t,none,none,none,none,none]=_
 unfold gw
 have h0:=Ay (sh:=sh) hl wf.f
 have w4:=wf.w4
 have hoff:=B9 (ws:=c.ws) (by o_shape)
 have g1:aa (jL .length) c.b.o=some (.int c.b.length):=sj rfl
 obtain⟨e',hloop,o5,o6,rfl⟩:=gT (g:=nmG 5) (b:=lB9) (ds:=(j7 c.ws).map D.int) (env:=[some (eG bs sh).o,some c.t,some (.int c.b.length),some (.int c.v),some (.lst []),none,none])
  (fun i e=>∃o5 o6,e=[some (eG bs sh).o,some c.t,some (.int c.b.length),some (.int c.v),some (.lst ((((j7 c.ws).take i).map (tm c.e c.v c.b.length)).map tmD)),o5,o6]) ⟨none,none,rfl⟩ (by
   rintro i d e hd ⟨o5,o6,rfl⟩
   rw[List.getElem?_map] at hd
   obtain⟨o,ho,rfl⟩:=Option.map_eq_some_iff.mp hd
   have hi:=(List.getElem?_eq_some_iff.mp ho).1
   rw[nK] at hi
   have d1:=mI (d:=o) wf.e (by o_shape) wf.v1 wf.v2
   have hv:=qp (a:=o) (b:=c.v) (by have:=wf.v1;o_shape)
   have ok2:Qok 332640 (lG c.e (Fr.low o c.v)):=by
    have:=zu wf.e hv
    exact⟨this.pos,Int.le_trans this.le (by have:=wf.v2;o_shape)⟩
   have d2:=mI (d:=c.b.length) ok2 (by o_shape) wf.v1 wf.v2
   have q:((j7 c.ws).take i).length<1000000:=by rw[List.length_take];exact Nat.lt_of_le_of_lt (Nat.min_le_left _ _) (Nat.lt_trans hi (nlt w4))
   refine⟨_,rfl,[some (eG bs sh).o,some c.t,some (.int c.b.length),some (.int c.v),some (.lst ((((j7 c.ws).take (i+1)).map (tm c.e c.v c.b.length)).map tmD)),some (.int o),some (frD (lG c.e (Fr.low o c.v)))], ?_,_,_,rfl⟩
   rw[List.take_add_one,ho,Option.toList_some,List.map_append,List.map_append]
   ktf_call(Cr.t,aZ,cr1,d1)
   k_search(Cr.t,d2,q,tm,tmD,List.map_cons,List.map_nil)
   )
 rw[List.length_map,List.take_of_length_le (Nat.le_refl _)] at hloop
 rw[Cr.t] at hloop ⊢
 ktf_call(Cr.t,aZ,cr0,h0,g1)
 ktf_call(aZ,cr2)
 ktf_call(cr2)
 ktf_call(aZ,cr3,hoff,aW,hloop)
 k_search(Cr.tms)
theorem su{b:Br}:atI [D.str b.name, .int b.length, .int b.bears, .int b.wide, .int b.most] 0=some (.str b.name):=ix0
theorem DK{b:Br}:atI [D.str b.name, .int b.length, .int b.bears, .int b.wide, .int b.most] 1=some (.int b.length):=bS (n:=1) rfl
theorem DL{b:Br}:atI [D.str b.name, .int b.length, .int b.bears, .int b.wide, .int b.most] 2=some (.int b.bears):=bS (n:=2) rfl
theorem mw{bs:List Br}{n:Str}{b:Br}(hl:bs.length≤6)(hf:bs.find? (fun c=>decide (c.name=n))=some b){fc:BF}{caps:PD.Env}(hc:∀c:Br,fc (some c.t5::caps)=some (decide (c.name=n))):∃xs,gN fc (vD 0) caps (bs.map Br.t5)=some xs∧atI xs 0=some b.t5:=by
 refine⟨(bs.filter fun c=>decide (c.name=n)).map Br.t5,j6 fun c _=>⟨hc c,fun _=>rfl⟩, ?_⟩
 have h0:(bs.filter fun c=>decide (c.name=n))[0]? =some b:=by rw[←List.head?_eq_getElem?,List.head?_filter];exact hf
 exact bS (n:=0) (by rw[List.getElem?_map,h0];rfl)
theorem j8{d:D}{b c:Bool}(h:d.isB b=c):aa isD d (.bl b)=some (.bl c):=by
 rw[ap,←h]
 cases d<;>rfl
theorem xN:∀(k m:Nat) (d:D),Good k d→k≤m→bU m [d,d]=some (.bl true)
 |0,_,_,g,_=>by cases g
 |k+1,0,_,_,h=>by o_shape
 |k+1,m+1,d,g,hm=>by
  show aa (bp 3 (iA (bU m))) [d,d]=_
  rw[ap]
  refine cA ?_
  show iA _ [some d,some d,none]=_
  unfold iA
  have seqc:∀xs,(d= .lst xs∨d= .tup xs)→xs.length<1000000→(∀x∈xs,Good k x)→∃o,bE (nmG 2) (ifS (m8 (bD (av (bU m) (ah (oD (aa ixD) (vD 0) (vD 2)) (ah (oD (aa ixD) (vD 1) (vD 2)) au))))) (bC (cD (.bl false))) nxS) ((List.range xs.length).map fun(i:Nat)=>D.int (0+(i:Int))) [some d,some d,none]=some (.nx [some d,some d,o]):=fun xs hd hl h=>by
   obtain⟨e',h1,o,rfl⟩:=gT (g:=nmG 2) (b:=ifS (m8 (bD (av (bU m) (ah (oD (aa ixD) (vD 0) (vD 2)) (ah (oD (aa ixD) (vD 1) (vD 2)) au))))) (bC (cD (.bl false))) nxS) (ds:=(List.range xs.length).map fun(i:Nat)=>D.int (0+(i:Int))) (env:=[some d,some d,none]) (fun _ e=>∃o,e=[some d,some d,o]) ⟨none,rfl⟩ (by
    rintro i y e hy ⟨o,rfl⟩
    rw[List.getElem?_map] at hy
    obtain⟨j,hj,rfl⟩:=Option.map_eq_some_iff.mp hy
    obtain⟨hj8,hj⟩:=List.getElem?_eq_some_iff.mp hj
    rw[List.getElem_range] at hj
    subst hj
    have hi:i<xs.length:=by simpa using hj8
    have hx:aa ixD d (.int (i:Int))=some xs[i]:=by
     rcases hd with rfl|rfl
     · rw[jK];exact j4 rfl (List.getElem?_eq_getElem hi)
     · rw[aZ];exact j4 rfl (List.getElem?_eq_getElem hi)
    have hs:=xN k m xs[i] (h _ (List.getElem_mem hi)) (by o_shape)
    refine⟨_,rfl,[some d,some d,some (.int (0+(i:Int)))], ?_,_,rfl⟩
    generalize bU m=G at hs ⊢
    k_search(Int.zero_add,hx,hs,Bool.not_true,Bool.false_eq_true)
    )
   exact⟨o,h1⟩
  generalize bU m=G at seqc
  cases g with
  |non=>
   k_search(DC)
  |bl _ b=>
   cases b with
   |true=>
    k_search(Av,j8 (d:= .bl true) (b:=true) (c:=true) rfl,Bool.false_eq_true)
   |false=>
    k_search(Av,j8 (d:= .bl false) (b:=true) (c:=false) rfl,j8 (d:= .bl false) (b:=false) (c:=true) rfl,Bool.false_eq_true)
  |int _ i=>
   k_search(DA,j8 (d:= .int i) (b:=true) (c:=false) rfl,j8 (d:= .int i) (b:=false) (c:=false) rfl,Dx,k_ii,k_ib,Bool.not_false,Bool.false_eq_true,decide_true)
  |str _ s=>
   k_search(DB,j8 (d:= .str s) (b:=true) (c:=false) rfl,j8 (d:= .str s) (b:=false) (c:=false) rfl,Dy,k_si,k_ss,Bool.false_eq_true,decide_true)
  | @lst _ xs h l=>
    obtain⟨o,hf⟩:=seqc xs (.inl rfl) l h
    have hr:aa iG [.int (xs.length:Int)]=some ((List.range xs.length).map fun(i:Nat)=>D.int (0+(i:Int))):=by
     have:=ko (j:=(xs.length:Int)) (by o_shape)
     rw[Int.toNat_natCast] at this
     exact this
    k_search(DD,j8 (d:= .lst xs) (b:=true) (c:=false) rfl,j8 (d:= .lst xs) (b:=false) (c:=false) rfl,Dz,k_li,k_ls,k_ll,k_lt,Bool.not_true,Bool.false_eq_true,decide_true,hr,hf)
  | @tup _ xs h l=>
    obtain⟨o,hf⟩:=seqc xs (.inr rfl) l h
    have hr:aa iG [.int (xs.length:Int)]=some ((List.range xs.length).map fun(i:Nat)=>D.int (0+(i:Int))):=by
     have:=ko (j:=(xs.length:Int)) (by o_shape)
     rw[Int.toNat_natCast] at this
     exact this
    k_search(DF,j8 (d:= .tup xs) (b:=true) (c:=false) rfl,j8 (d:= .tup xs) (b:=false) (c:=false) rfl,Au,k_ti,k_ts,k_tl,k_tt,Bool.not_true,Bool.false_eq_true,decide_true,hr,hf)
theorem zA{d:D}{k:Nat}(g:Good k d)(hk:k≤12:=by o_shape):F_law_same [d,d]=some (.bl true):=xN k 12 d g hk
theorem zB{p:Int×Int}:Good 2 (frD p):= .tup (fun x hx=>by
 simp only[List.mem_cons,List.not_mem_nil,or_false] at hx
 rcases hx with rfl|rfl<;>exact .int _ _) (by show 2<1000000;decide)
theorem zC{ws:List Wh}:Nums 2 (.lst (ws.map Wh.t)):= .lst fun x hx=>by
 obtain⟨w,_,rfl⟩:=List.mem_map.mp hx
 exact .tup fun y hy=>by
  simp only[List.mem_cons,List.not_mem_nil,or_false] at hy
  rcases hy with rfl|rfl|rfl<;>exact .int _ _
def ltQ(p q:Int×Int):Bool:=decide (p.1*q.2<q.1*p.2)
structure Sy where
 on:Int×Int
 off:Int×Int
 low:Int
 high:Int
def Sy.t(s:Sy):D:= .tup [frD s.on,frD s.off, .int s.low, .int s.high]
theorem sy0{s:Sy}:atI [frD s.on,frD s.off, .int s.low, .int s.high] 0=some (frD s.on):=ix0
theorem sy1{s:Sy}:atI [frD s.on,frD s.off, .int s.low, .int s.high] 1=some (frD s.off):=bS (n:=1) rfl
theorem sy3{s:Sy}:atI [frD s.on,frD s.off, .int s.low, .int s.high] 3=some (.int s.high):=bS (n:=3) rfl
def nL(t:(Int×Int)×(Int×Int))(w:Wh):Sy:=⟨t.1,t.2,w.low,w.high⟩
def Cr.sys(c:Cr):List Sy:=List.zipWith nL c.tms c.ws
def cw(crs:List Cr)(n:Str):List Sy:=crs.flatMap fun c=>if c.b.name=n then c.sys else[]
theorem jG{c:Cr}{crs:List Cr}{n:Str}:cw (c::crs) n=(if c.b.name=n then c.sys else[])++cw crs n:=List.flatMap_cons
theorem zD{c:Cr}:c.tms.length=c.ws.length:=by unfold Cr.tms;rw[List.length_map,nK]
theorem jH{c:Cr}:c.sys.length=c.ws.length:=by unfold Cr.sys;rw[List.length_zipWith,zD];o_shape
theorem tm0{t:(Int×Int)×(Int×Int)}:atI [frD t.1,frD t.2] 0=some (frD t.1):=ix0
theorem tm1{t:(Int×Int)×(Int×Int)}:atI [frD t.1,frD t.2] 1=some (frD t.2):=bS (n:=1) rfl
theorem wh1{w:Wh}:atI [D.int w.gap, .int w.low, .int w.high] 1=some (.int w.low):=bS (n:=1) rfl
theorem wh2{w:Wh}:atI [D.int w.gap, .int w.low, .int w.high] 2=some (.int w.high):=bS (n:=2) rfl
theorem kq{bs:List Br}:∀{crs:List Cr} {n:Str},(∀c∈crs,c.WF bs)→(cw crs n).length≤4*crs.length
 |[],_,_=>Nat.zero_le _
 |c::crs,n,h=>by
  have ih:=kq (n:=n) (fun d hd=>h d (List.mem_cons_of_mem _ hd))
  have w4:=(h c List.mem_cons_self).w4
  rw[jG,List.length_append,List.length_cons]
  have:(if c.b.name=n then c.sys else[]).length≤4:=by
   split
   · rw[jH];exact w4
   · exact Nat.zero_le _
  omega
theorem vq{sh:List (Str×Int×Int)}{bs:List Br}{n:Str}{crs:List Cr}(hl:bs.length≤6)(hw:∀c∈crs,c.WF bs)(hc:crs.length<1000):gB [(eG bs sh).o, .lst (crs.map Cr.t), .str n]=some (.lst ((cw crs n).map Sy.t)):=by
 rw[gB,ap]
 refine bR ?_
 show gA [some (eG bs sh).o,some (.lst (crs.map Cr.t)),some (.str n),none,none,none,none]=_
 unfold gA
 have inner:∀(c:Cr) (ts:List ((Int×Int)×(Int×Int))) (ws:List Wh) (acc:List Sy) (o5 o6:Option D),acc.length+ws.length<100000→∃q5 q6,bE (gU [5,6]) ((ft 3 (mk Fc (cG (ah (oD (aa ixD) (vD 5) (cD (.int 0))) (ah (oD (aa ixD) (vD 5) (cD (.int 1))) (ah (oD (aa ixD) (vD 6) (cD (.int 1))) (ah (oD (aa ixD) (vD 6) (cD (.int 2))) au)))))))) (lX (ts.map tmD) (ws.map Wh.t)) [some (eG bs sh).o,some (.lst (crs.map Cr.t)),some (.str n),some (.lst (acc.map Sy.t)),some c.t,o5,o6]=some (.nx [some (eG bs sh).o,some (.lst (crs.map Cr.t)),some (.str n),some (.lst ((acc++List.zipWith nL ts ws).map Sy.t)),some c.t,q5,q6]):=by
  intro c ts
  induction ts with
  |nil=>intro ws acc o5 o6 _;exact⟨o5,o6,by rw[List.zipWith_nil_left,List.append_nil];rfl⟩
  |cons t ts ih=>
   intro ws acc o5 o6 hlen
   cases ws with
   |nil=>exact⟨o5,o6,by rw[List.zipWith_nil_right,List.append_nil];rfl⟩
   |cons w ws=>
    rw[List.length_cons] at hlen
    obtain⟨q5,q6,h⟩:=ih ws (acc++[nL t w]) (some (tmD t)) (some w.t) (by rw[List.length_append,List.length_singleton,Nat.add_assoc,Nat.add_comm 1];exact hlen)
    refine⟨q5,q6, ?_⟩
    rw[List.append_assoc] at h
    have hb:((ft 3 (mk Fc (cG (ah (oD (aa ixD) (vD 5) (cD (.int 0))) (ah (oD (aa ixD) (vD 5) (cD (.int 1))) (ah (oD (aa ixD) (vD 6) (cD (.int 1))) (ah (oD (aa ixD) (vD 6) (cD (.int 2))) au)))))))) [some (eG bs sh).o,some (.lst (crs.map Cr.t)),some (.str n),some (.lst (acc.map Sy.t)),some c.t,some (tmD t),some w.t]=some (.nx [some (eG bs sh).o,some (.lst (crs.map Cr.t)),some (.str n),some (.lst ((acc++[nL t w]).map Sy.t)),some c.t,some (tmD t),some w.t]):=by
     have q:acc.length<1000000:=by o_shape
     k_search(tmD,Wh.t,aZ,tm0,tm1,wh1,wh2,q,List.map_append,List.map_cons,List.map_nil,Sy.t,nL)
    show bE _ _ (D.tup [tmD t,w.t]::lX (ts.map tmD) (ws.map Wh.t)) _=_
    rw[bE]
    simp only[gU,kG,List.set_cons_zero,List.set_cons_succ,aB,hb]
    exact h
 have outer:∀(ds:List Cr) (acc:List Sy) (o4 o5 o6:Option D),(∀c∈ds,c.WF bs)→acc.length+4*ds.length<90000→∃q4 q5 q6,bE (nmG 4) ((ifS (bD (oD (aa eqD) (oD (aa ixD) (vD 4) (cD (.int 0))) (vD 2))) (dD (mk Fc (iaD (aa pL) (ah (av gz (ah (vD 0) (ah (vD 4) au))) (ah (oD (aa ixD) (vD 4) (cD (.int 3))) au)))) (gU [5,6]) (ft 3 (mk Fc (cG (ah (oD (aa ixD) (vD 5) (cD (.int 0))) (ah (oD (aa ixD) (vD 5) (cD (.int 1))) (ah (oD (aa ixD) (vD 6) (cD (.int 1))) (ah (oD (aa ixD) (vD 6) (cD (.int 2))) au)))))))) nxS)) (ds.map Cr.t) [some (eG bs sh).o,some (.lst (crs.map Cr.t)),some (.str n),some (.lst (acc.map Sy.t)),o4,o5,o6]=some (.nx [some (eG bs sh).o,some (.lst (crs.map Cr.t)),some (.str n),some (.lst ((acc++cw ds n).map Sy.t)),q4,q5,q6]):=by
  intro ds
  induction ds with
  |nil=>intro acc o4 o5 o6 _ _;exact⟨o4,o5,o6,by rw[cw,List.flatMap_nil,List.append_nil];rfl⟩
  |cons c ds ih=>
   intro acc o4 o5 o6 hd hlen
   rw[List.length_cons] at hlen
   have wf:=hd c List.mem_cons_self
   have w4:=wf.w4
   have hb:∃q5 q6,((ifS (bD (oD (aa eqD) (oD (aa ixD) (vD 4) (cD (.int 0))) (vD 2))) (dD (mk Fc (iaD (aa pL) (ah (av gz (ah (vD 0) (ah (vD 4) au))) (ah (oD (aa ixD) (vD 4) (cD (.int 3))) au)))) (gU [5,6]) (ft 3 (mk Fc (cG (ah (oD (aa ixD) (vD 5) (cD (.int 0))) (ah (oD (aa ixD) (vD 5) (cD (.int 1))) (ah (oD (aa ixD) (vD 6) (cD (.int 1))) (ah (oD (aa ixD) (vD 6) (cD (.int 2))) au)))))))) nxS)) [some (eG bs sh).o,some (.lst (crs.map Cr.t)),some (.str n),some (.lst (acc.map Sy.t)),some c.t,o5,o6]=some (.nx [some (eG bs sh).o,some (.lst (crs.map Cr.t)),some (.str n),some (.lst ((acc++if c.b.name=n then c.sys else[]).map Sy.t)),some c.t,q5,q6]):=by
    have c0:aa ixD c.t (.int 0)=some (.str c.b.name):=by rw[Cr.t,aZ,cr0]
    have c3:aa ixD c.t (.int 3)=some (.lst (c.ws.map Wh.t)):=by rw[Cr.t,aZ,cr3]
    by_cases hn:c.b.name=n
    · obtain⟨q5,q6,h⟩:=inner c c.tms c.ws acc o5 o6 (by o_shape)
      have ht:=zz (sh:=sh) hl wf
      refine⟨q5,q6, ?_⟩
      rw[if_pos hn]
      have hn2:decide (c.b.name=n)=true:=decide_eq_true hn
      k_search(c0,hn2,ht,c3,h,Cr.sys)
    · refine⟨o5,o6, ?_⟩
      rw[if_neg hn,List.append_nil]
      have hn2:decide (c.b.name=n)=false:=decide_eq_false hn
      k_search(c0,hn2,Bool.false_eq_true)
   obtain⟨q5,q6,hb⟩:=hb
   obtain⟨p4,p5,p6,h⟩:=ih (acc++if c.b.name=n then c.sys else[]) (some c.t) q5 q6 (fun d h=>hd d (List.mem_cons_of_mem _ h)) (by
    have:(if c.b.name=n then c.sys else[]).length≤4:=by
     split
     · rw[jH];exact w4
     · exact Nat.zero_le _
    rw[List.length_append]
    omega)
   refine⟨p4,p5,p6, ?_⟩
   rw[jG,←List.append_assoc,List.map_cons,bE]
   simp only[nmG,List.set_cons_zero,List.set_cons_succ,aB,hb]
   exact h
 obtain⟨q4,q5,q6,h⟩:=outer crs [] none none none hw (by simp;o_shape)
 rw[List.nil_append,List.map_nil] at h
 ktf_call(hl)
 ktf_call(aW,h)
 k_search(hl)
def Sy.at(m:Int×Int)(s:Sy):Bool:= !ltQ m s.on&&ltQ m s.off
theorem Ca{xs:List Int}:aa yQ [.lst (xs.map D.int)]=some (.int xs.sum):=by
 rw[ap]
 show (inS _).map _=_
 rw[vj]
 rfl
theorem sv{α β γ:Type}{f:α→β→γ}:∀{xs:List α} {ys:List β} {z:γ},z∈List.zipWith f xs ys→∃x∈xs,∃y∈ys,z=f x y
 |[],_,_,h=>by rw[List.zipWith_nil_left] at h;cases h
 |_::_,[],_,h=>by rw[List.zipWith_nil_right] at h;cases h
 |x::xs,y::ys,z,h=>by
  rw[List.zipWith_cons_cons] at h
  rcases List.mem_cons.mp h with rfl|h
  · exact⟨x,List.mem_cons_self,y,List.mem_cons_self,rfl⟩
  · obtain⟨a,ha,b,hb,e⟩:=sv h
    exact⟨a,List.mem_cons_of_mem _ ha,b,List.mem_cons_of_mem _ hb,e⟩
def mJ(xs:List Int)(k:Nat):Int:=if h:k<xs.length then xs[k] else 0
theorem sw{xs:List Int}{d:D}(hd:d= .lst (xs.map D.int)∨d= .fz (xs.map D.int))(k:Nat):e8 [d, .int k]=some (.int (mJ xs k)):=by
 have hl:aa jQ [d]=some (.int xs.length):=by rw[ap];rcases hd with rfl|rfl<;>simp[jQ,rj]
 rw[e8,ap]
 show (dL [some d,some (.int k)]).bind _=_
 unfold dL
 by_cases h:k<xs.length
 · have hi:aa ixD d (.int k)=some (.int (mJ xs k)):=by
    rcases hd with rfl|rfl
    · rw[jK]
      exact j4 rfl (by rw[List.getElem?_map,List.getElem?_eq_getElem h];simp[mJ,h])
    · rw[Dq]
      exact j4 rfl (by rw[List.getElem?_map,List.getElem?_eq_getElem h];simp[mJ,h])
   have hlt:((k:Int)<(xs.length:Int)):=by o_shape
   k_search(hl,hi,decide_eq_true hlt)
 · have hz:mJ xs k=0:=by simp[mJ,h]
   have hlt:¬((k:Int)<(xs.length:Int)):=by o_shape
   k_search(hl,hz,decide_eq_false hlt,Bool.false_eq_true)
theorem Cb{xs:List Int}{d:D}(hd:d= .lst (xs.map D.int)∨d= .fz (xs.map D.int))(a b:Nat):∃ys:List Int,ys.length≤b-a∧aa nc d (some (a:Int)) (some (b:Int))=some (.lst (ys.map D.int)):=by
 refine⟨si xs (some (a:Int)) (some (b:Int)),xH, ?_⟩
 rw[ap]
 rcases hd with rfl|rfl
 · show some (D.lst (m9 _ _ _))=_
   rw[←lF]
 · show some (D.lst (m9 _ _ _))=_
   rw[←lF]
theorem Cr.WF.same{c:Cr}{bs:List Br}{b:Br}(wf:c.WF bs)(nd:NmD bs)(hb:b∈bs)(h:c.b.name=b.name):c.b=b:=by
 have h1:=wf.f
 rw[h,nd b hb] at h1
 exact(Option.some.inj h1).symm
theorem xO{bs:List Br}{crs:List Cr}(hb:∀b∈bs,b.W5)(hw:∀c∈crs,c.WF bs):Nums 4 (.lst (crs.map Cr.t)):= .lst fun x hx=>by
 obtain⟨c,hc,rfl⟩:=List.mem_map.mp hx
 have sk:SOk c.b.name:=(hb c.b (List.mem_of_find?_eq_some (hw c hc).f)).n0
 exact .tup fun y hy=>by
  simp only[List.mem_cons,List.not_mem_nil,or_false] at hy
  rcases hy with rfl|rfl|rfl|rfl
  · exact .str _ sk
  · exact .tup fun z hz=>by
     simp only[List.mem_cons,List.not_mem_nil,or_false] at hz
     rcases hz with rfl|rfl<;>exact .int _ _
  · exact .int _ _
  · exact zC
theorem nM{α:Type}{f:α→D}{xs ys:List α}(h:xs.length+ys.length≤1000000):aa ba (.lst (xs.map f)) (.lst (ys.map f))=some (.lst ((xs++ys).map f)):=by
 rw[ap]
 show (if _ then _ else _)=_
 rw[if_pos (by rw[List.length_map,List.length_map];exact h),List.map_append]
theorem qq{α:Type}{f:α→D}{xs:List α}{i:Nat}{x:α}(h:xs[i]? =some x):aa ixD (.lst (xs.map f)) (.int (i:Int))=some (f x):=by
 rw[jK]
 exact j4 rfl (by rw[List.getElem?_map,h];rfl)
def prt(q:Int×Int):Int:=q.1*(27720/q.2)
structure Dv(q:Int×Int):Prop where
 pos:0<q.2
 dv:q.2 ∣ 27720
theorem Dv.ex{q:Int×Int}(h:Dv q):∃a,27720=q.2*a∧27720/q.2=a:=by
 obtain⟨a,ha⟩:=h.dv
 have p:=h.pos
 exact⟨a,ha,by rw[ha];exact Int.mul_ediv_cancel_left a (by o_shape)⟩
theorem Dv.le{q:Int×Int}(h:Dv q):Qok 27720 q:=⟨h.pos,Int.le_of_dvd (by o_shape) h.dv⟩
theorem qr{x y z:Int}(hy:0<y)(h:x*27720=z*y):Dv (Fr.low x y)∧prt (Fr.low x y)=z:=by
 obtain⟨k,k0,h1,h2,h3,h4⟩:=Fr.mk_facts (a:=x) (b:=y) (by o_shape)
 rw[Fr.low_mk hy] at h1 h2 h3 h4
 generalize Fr.low x y=p at*
 have e:p.1*27720=z*p.2:=by
  have:k*(p.1*27720)=k*(z*p.2):=by
   have a1:k*(p.1*27720)=x*27720:=by rw[h1];grind
   have a2:k*(z*p.2)=z*y:=by rw[h2];grind
   rw[a1,a2,h]
  exact Int.eq_of_mul_eq_mul_left k0 this
 have hd:p.2 ∣ 27720:=by
  have a:p.2 ∣ p.1*27720:=⟨z,by rw[e];grind⟩
  have b:Int.gcd p.2 p.1=1:=by rw[Int.gcd_comm];exact h4
  have c:=Int.natAbs_dvd_natAbs.mpr a
  rw[Int.natAbs_mul] at c
  exact Int.natAbs_dvd_natAbs.mp (Nat.Coprime.dvd_of_dvd_mul_left b c)
 have dv:Dv p:=⟨h3,hd⟩
 obtain⟨a,ha,hb⟩:=dv.ex
 refine⟨dv, ?_⟩
 unfold prt
 rw[hb]
 have:p.2*(p.1*a)=p.2*z:=by
  have c1:p.2*(p.1*a)=p.1*(p.2*a):=by grind
  rw[c1,←ha,e]
  grind
 exact Int.eq_of_mul_eq_mul_left (by o_shape) this
theorem vt{p q:Int×Int}(hp:Dv p)(hq:Dv q):Dv (lG p q)∧prt (lG p q)=prt p+prt q:=by
 obtain⟨a,a1,a2⟩:=hp.ex
 obtain⟨b,b1,b2⟩:=hq.ex
 refine qr (Int.mul_pos hp.pos hq.pos) ?_
 unfold prt
 rw[a2,b2]
 have c1:(p.1*q.2+q.1*p.2)*27720=p.1*q.2*27720+q.1*p.2*27720:=by grind
 have c2:p.1*q.2*27720=p.1*q.2*(p.2*a):=by rw[←a1]
 have c3:q.1*p.2*27720=q.1*p.2*(q.2*b):=by rw[←b1]
 rw[c1,c2,c3]
 grind
theorem vw{o v:Int}(hv:0<v)(dv:v ∣ 27720):Dv (Fr.low o v)∧prt (Fr.low o v)=o*(27720/v):=by
 refine qr hv ?_
 have:=Int.ediv_mul_cancel dv
 have c:o*(27720/v)*v=o*(27720/v*v):=by grind
 rw[c,this]
theorem Cc{v:Int}(h1:1≤v)(h2:v≤12):v ∣ 27720:=by
 have:v=1∨v=2∨v=3∨v=4∨v=5∨v=6∨v=7∨v=8∨v=9∨v=10∨v=11∨v=12:=by o_shape
 rcases this with rfl|rfl|rfl|rfl|rfl|rfl|rfl|rfl|rfl|rfl|rfl|rfl<;>decide
theorem DM{q:Int×Int}(h:Qok 12 q):Dv q:=⟨h.pos,Cc (by have:=h.pos;o_shape) h.le⟩
structure Sy.Dd(s:Sy):Prop where
 on:Dv s.on
 off:Dv s.off
theorem qt{e:Int×Int}{v len o:Int}(he:Dv e)(v1:1≤v)(v2:v≤12):Dv (tm e v len o).1∧Dv (tm e v len o).2∧prt (tm e v len o).1=prt e+o*(27720/v)∧prt (tm e v len o).2=prt e+o*(27720/v)+len*(27720/v):=by
 have d:=Cc v1 v2
 have a:=vw (o:=o) (v:=v) (by o_shape) d
 have b:=vw (o:=len) (v:=v) (by o_shape) d
 have c:=vt he a.1
 have f:=vt c.1 b.1
 exact⟨c.1,f.1,by show prt (lG e (Fr.low o v))=_;rw[c.2,a.2],by show prt (lG (lG e (Fr.low o v)) (Fr.low len v))=_;rw[f.2,c.2,a.2,b.2]⟩
theorem xP{c:Cr}{bs:List Br}(wf:c.WF bs)(he:Dv c.e):∀s∈c.sys,s.Dd:=by
 intro s hs
 obtain⟨t,ht,w,_,rfl⟩:=sv hs
 unfold Cr.tms at ht
 obtain⟨o,_,rfl⟩:=List.mem_map.mp ht
 have:=qt (len:=c.b.length) (o:=o) he wf.v1 wf.v2
 exact⟨this.1,this.2.1⟩
theorem xQ{bs:List Br}{crs:List Cr}{n:Str}(hw:∀c∈crs,c.WF bs)(he:∀c∈crs,Dv c.e):∀s∈cw crs n,s.Dd:=by
 intro s hs
 obtain⟨c,hc,h⟩:=List.mem_flatMap.mp hs
 split at h
 · exact xP (hw c hc) (he c hc) s h
 · cases h
def spT(s:Sy):D:= .tup [.int (prt s.on), .int (prt s.off), .int s.low, .int s.high]
theorem lI{α:Type}{mk:α→D}{g:GF}{b:SF}{Pv:PD.Env→Prop}{p:α→Bool}:∀{xs:List α} {env:PD.Env},Pv env→(∀x∈xs,∀e,Pv e→∃e1,g (mk x) e=some e1∧((p x=true∧∃e2,b e1=some (.nx e2)∧Pv e2)∨(p x=false∧b e1=some (.rt (.bl false)))))→(xs.all p=true∧∃e',bE g b (xs.map mk) env=some (.nx e')∧Pv e')∨(xs.all p=false∧bE g b (xs.map mk) env=some (.rt (.bl false)))
 |[],env,h0,_=> .inl ⟨rfl,env,rfl,h0⟩
 |x::xs,env,h0,hs=>by
  obtain⟨e1,h1,h2|h2⟩:=hs x List.mem_cons_self env h0
  · obtain⟨hp,e2,h3,p2⟩:=h2
    rcases lI (xs:=xs) p2 (fun y hy=>hs y (List.mem_cons_of_mem _ hy)) with⟨a1,e',a2,a3⟩|⟨a1,a2⟩
    · refine .inl ⟨by rw[List.all_cons,hp,a1];rfl,e', ?_,a3⟩
      rw[List.map_cons,bE,h1,aB,h3,aB]
      exact a2
    · refine .inr ⟨by rw[List.all_cons,hp,a1];rfl, ?_⟩
      rw[List.map_cons,bE,h1,aB,h3,aB]
      exact a2
  · refine .inr ⟨by rw[List.all_cons,h2.1];rfl, ?_⟩
    rw[List.map_cons,bE,h1,aB,h2.2,aB]
theorem qu{F G:SF}{e:PD.Env}{d:D}(h:F e=some (.rt d)):aD F G e=some (.rt d):=by unfold aD;rw[h];rfl
theorem qv{q:Int×Int}(h:Dv q):fB [frD q]=some (.int (prt q)):=by
 rw[fB,ap]
 refine cA ?_
 show gu [some (frD q)]=_
 unfold gu prt frD
 have p0:=h.pos
 have p1:=h.le.le
 have r0:0≤27720/q.2:=Int.ediv_nonneg (by o_shape) (by o_shape)
 have r1:27720/q.2≤27720:=Int.ediv_le_self _ (by o_shape)
 have hd:=je (i:=27720) (j:=q.2) (by o_shape)
 generalize 27720/q.2=r at*
 k_search(aZ,qo,nH,hd)
def xR(c:Cr)(o:Int)(w:Wh):Sy:=nL (tm c.e c.v c.b.length o) w
theorem ua{bs:List Br}{c:Cr}{b:Br}(wf:c.WF bs)(he:Dv c.e)(hl:b.length=c.b.length):bJ [b.t5,c.t]=some (.lst (c.sys.map spT)):=by
 rw[bJ,ap]
 refine bR ?_
 show cM [some b.t5,some c.t,none,none,none,none,none,none,none,none]=_
 unfold cM
 have v1:=wf.v1
 have v2:=wf.v2
 have w1:=wf.w1
 have w4:=wf.w4
 have hoff:ff [.lst (c.ws.map Wh.t)]=some (.lst ((j7 c.ws).map .int)):=by
  cases e:c.ws with
  |nil=>rw[e] at w1;simp at w1
  |cons w ws=>exact B8 (by rw[e] at w4;simp at w4;o_shape)
 have hp:=qv he
 have r0:0≤27720/c.v:=Int.ediv_nonneg (by o_shape) (by o_shape)
 have r1:27720/c.v≤27720:=Int.ediv_le_self _ (by o_shape)
 have hdv:=je (i:=27720) (j:=c.v) (by o_shape)
 have b1:aa ixD b.t5 (.int 1)=some (.int c.b.length):=by rw[Br.t5,aZ,DK,hl]
 have htp:=fun o=>qt (len:=c.b.length) (o:=o) he v1 v2
 have es:∀o w,spT (xR c o w)= .tup [.int (prt c.e+o*(27720/c.v)), .int (prt c.e+o*(27720/c.v)+c.b.length*(27720/c.v)), .int w.low, .int w.high]:=fun o w=>by
  show D.tup [.int (prt (tm c.e c.v c.b.length o).1), .int (prt (tm c.e c.v c.b.length o).2),_,_]=_
  rw[(htp o).2.2.1,(htp o).2.2.2]
  rfl
 have inner:∀(os:List Int) (ws:List Wh) (acc:List Sy) (o7 o8 o9:Option D),acc.length+ws.length<10000→∃q7 q8 q9,bE (gU [7,8]) (lB4) (lX (os.map D.int) (ws.map Wh.t)) [some b.t5,some c.t,some (.str c.b.name),some (frD c.e),some (.int c.v),some (.lst (c.ws.map Wh.t)),some (.lst (acc.map spT)),o7,o8,o9]=some (.nx [some b.t5,some c.t,some (.str c.b.name),some (frD c.e),some (.int c.v),some (.lst (c.ws.map Wh.t)),some (.lst ((acc++List.zipWith (xR c) os ws).map spT)),q7,q8,q9]):=by
  intro os
  induction os with
  |nil=>intro ws acc o7 o8 o9 _;exact⟨o7,o8,o9,by rw[List.zipWith_nil_left,List.append_nil];rfl⟩
  |cons o os ih=>
   intro ws acc o7 o8 o9 hlen
   cases ws with
   |nil=>exact⟨o7,o8,o9,by rw[List.zipWith_nil_right,List.append_nil];rfl⟩
   |cons w ws=>
    rw[List.length_cons] at hlen
    obtain⟨q7,q8,q9,h⟩:=ih ws (acc++[xR c o w]) (some (.int o)) (some w.t) (some (.int (prt c.e+o*(27720/c.v)))) (by rw[List.length_append,List.length_singleton];o_shape)
    refine⟨q7,q8,q9, ?_⟩
    rw[List.append_assoc] at h
    have hb:(lB4) [some b.t5,some c.t,some (.str c.b.name),some (frD c.e),some (.int c.v),some (.lst (c.ws.map Wh.t)),some (.lst (acc.map spT)),some (.int o),some w.t,o9]=some (.nx [some b.t5,some c.t,some (.str c.b.name),some (frD c.e),some (.int c.v),some (.lst (c.ws.map Wh.t)),some (.lst ((acc++[xR c o w]).map spT)),some (.int o),some w.t,some (.int (prt c.e+o*(27720/c.v)))]):=by
     have q:acc.length<1000000:=by o_shape
     have x1:aa ixD w.t (.int 1)=some (.int w.low):=by rw[Wh.t,aZ,wh1]
     have x2:aa ixD w.t (.int 2)=some (.int w.high):=by rw[Wh.t,aZ,wh2]
     rw[List.map_append,List.map_cons,List.map_nil,es]
     generalize 27720/c.v=r at*
     ktf_call(hp,hdv)
     k_search(b1,hdv,x1,x2,q)
    show bE _ _ (D.tup [.int o,w.t]::lX (os.map D.int) (ws.map Wh.t)) _=_
    rw[bE]
    simp only[gU,kG,List.set_cons_zero,List.set_cons_succ,aB,hb]
    exact h
 obtain⟨q7,q8,q9,h⟩:=inner (j7 c.ws) c.ws [] none none none (by simp;o_shape)
 rw[List.nil_append,List.map_nil] at h
 have ez:List.zipWith (xR c) (j7 c.ws) c.ws=c.sys:=by
  show _=List.zipWith nL ((j7 c.ws).map (tm c.e c.v c.b.length)) c.ws
  rw[List.zipWith_map_left]
  rfl
 rw[ez] at h
 rw[Cr.t] at h ⊢
 ktf_call(hoff)
 ktf_call(hoff)
 ktf_call(hoff,h)
 k_search(hoff)
theorem sA{bs:List Br}{b:Br}{crs:List Cr}(nd:NmD bs)(hb:b∈bs)(hw:∀c∈crs,c.WF bs)(he:∀c∈crs,Dv c.e)(hc:crs.length≤32):gR [b.t5, .lst (crs.map Cr.t)]=some (.lst ((cw crs b.name).map spT)):=by
 rw[gR,ap]
 first|refine cA ?_|refine bR ?_
 show fL [some b.t5,some (.lst (crs.map Cr.t)),none,none]=_
 unfold fL
 have b0:aa ixD b.t5 (.int 0)=some (.str b.name):=by rw[Br.t5,aZ,su]
 have outer:∀(ds:List Cr) (acc:List Sy) (o3:Option D),(∀c∈ds,c.WF bs)→(∀c∈ds,Dv c.e)→acc.length+4*ds.length<9000→∃q3,bE (nmG 3) ((ifS (bD (oD (aa eqD) (oD (aa ixD) (vD 3) (cD (.int 0))) (oD (aa ixD) (vD 0) (cD (.int 0))))) (aH 2 (mk [false,false,false,false] (oD (aa ba) (vD 2) (av bJ (ah (vD 0) (ah (vD 3) au)))))) nxS)) (ds.map Cr.t) [some b.t5,some (.lst (crs.map Cr.t)),some (.lst (acc.map spT)),o3]=some (.nx [some b.t5,some (.lst (crs.map Cr.t)),some (.lst ((acc++cw ds b.name).map spT)),q3]):=by
  intro ds
  induction ds with
  |nil=>intro acc o3 _ _ _;exact⟨o3,by rw[cw,List.flatMap_nil,List.append_nil];rfl⟩
  |cons c ds ih=>
   intro acc o3 hd hde hlen
   rw[List.length_cons] at hlen
   have wf:=hd c List.mem_cons_self
   have w4:=wf.w4
   have c0:aa ixD c.t (.int 0)=some (.str c.b.name):=by rw[Cr.t,aZ,cr0]
   have hle:(if c.b.name=b.name then c.sys else[]).length≤4:=by
    split
    · rw[jH];exact w4
    · exact Nat.zero_le _
   have hb2:((ifS (bD (oD (aa eqD) (oD (aa ixD) (vD 3) (cD (.int 0))) (oD (aa ixD) (vD 0) (cD (.int 0))))) (aH 2 (mk [false,false,false,false] (oD (aa ba) (vD 2) (av bJ (ah (vD 0) (ah (vD 3) au)))))) nxS)) [some b.t5,some (.lst (crs.map Cr.t)),some (.lst (acc.map spT)),some c.t]=some (.nx [some b.t5,some (.lst (crs.map Cr.t)),some (.lst ((acc++if c.b.name=b.name then c.sys else[]).map spT)),some c.t]):=by
    by_cases hn:c.b.name=b.name
    · rw[if_pos hn] at hle ⊢
      have ho:=ua (b:=b) wf (hde c List.mem_cons_self) (by rw[←wf.same nd hb hn])
      have ad:=nM (f:=spT) (xs:=acc) (ys:=c.sys) (by o_shape)
      k_search(c0,b0,decide_eq_true hn,ho,ad)
    · rw[if_neg hn,List.append_nil]
      k_search(c0,b0,decide_eq_false hn,Bool.false_eq_true)
   obtain⟨q3,h⟩:=ih (acc++if c.b.name=b.name then c.sys else[]) (some c.t) (fun d h=>hd d (List.mem_cons_of_mem _ h)) (fun d h=>hde d (List.mem_cons_of_mem _ h)) (by rw[List.length_append];o_shape)
   refine⟨q3, ?_⟩
   rw[jG,←List.append_assoc,List.map_cons,bE]
   simp only[nmG,List.set_cons_zero,List.set_cons_succ,aB,hb2]
   exact h
 obtain⟨q3,h⟩:=outer crs [] none hw he (by simp;o_shape)
 rw[List.nil_append,List.map_nil] at h
 ktf_call(hc)
 ktf_call(aW,h)
 k_search(hc)
def d0(sh:List (Str×Int×Int))(n:Str):List (Int×Int):=(sh.filter fun r=>decide (r.1=n)).map (·.2)
theorem oV{sh:List (Str×Int×Int)}{n:Str}(hl:sh.length<1000):cq [.lst (sh.map shT), .str n]=some (.lst ((d0 sh n).map prD)):=by
 rw[cq,ap]
 first|refine bR ?_|refine cA ?_
 show dN [some (.lst (sh.map shT)),some (.str n)]=_
 unfold dN
 have go:∀ts:List (Str×Int×Int),bT 3 (bD (oD (aa eqD) (vD 0) (vD 3))) (cG (ah (vD 1) (ah (vD 2) au))) [some (.str n)] (ts.map shT)=some ((d0 ts n).map prD):=by
  intro ts
  induction ts with
  |nil=>rfl
  |cons s ts ih=>
   rw[List.map_cons]
   show bT 3 _ _ _ (.tup [.str s.1, .int s.2.1, .int s.2.2]::ts.map shT)=_
   rw[bT,if_pos (show [D.str s.1, .int s.2.1, .int s.2.2].length=3 from rfl),ih]
   have ec:bD (oD (aa eqD) (vD 0) (vD 3)) ([D.str s.1, .int s.2.1, .int s.2.2].map some++[some (.str n)])=some (decide (s.1=n)):=by
    show bD _ [some (.str s.1),some (.int s.2.1),some (.int s.2.2),some (.str n)]=_
    k_search(hl)
   rw[ec,aB]
   unfold d0
   by_cases e:s.1=n
   · rw[decide_eq_true e,ite_tt,List.filter_cons_of_pos (by simpa using e)]
     rfl
   · rw[decide_eq_false e,ite_ff,List.filter_cons_of_neg (by simpa using e)]
 have hc:gX 3 (itD (vD 0)) (bD (oD (aa eqD) (vD 0) (vD 3))) (cG (ah (vD 1) (ah (vD 2) au))) [1] [some (.lst (sh.map shT)),some (.str n)]=some (.lst ((d0 sh n).map prD)):=by
  unfold gX
  simp only[itD,gJ,aB,aW]
  rw[if_pos (by rw[List.length_map];o_shape)]
  show Option.map _ (bT _ _ _ [some (.str n)] _)=_
  rw[go sh]
  rfl
 k_search(hc)
theorem Cd{bs:List Br}{sh:List (Str×Int×Int)}{n:Str}(hl:sh.length<1000):jC [(eG bs sh).o, .str n]=some (.lst ((d0 sh n).map prD)):=by
 rw[jC,ap]
 first|refine bR ?_|refine cA ?_
 show gH [some (eG bs sh).o,some (.str n)]=_
 unfold gH
 have hg:aa (jL .shuts) (eG bs sh).o=some (.lst (sh.map shT)):=zt
 have hc:bN (itD (uD (aa (jL .shuts)) (vD 0))) (bD (oD (aa eqD) (oD (aa ixD) (vD 0) (cD (.int 0))) (vD 1))) (cG (ah (oD (aa ixD) (vD 0) (cD (.int 1))) (ah (oD (aa ixD) (vD 0) (cD (.int 2))) au))) [1] [some (eG bs sh).o,some (.str n)]=some (.lst ((d0 sh n).map prD)):=by
  unfold bN
  simp only[itD,uD,gJ,aB,hg,aW]
  rw[if_pos (by rw[List.length_map];o_shape)]
  show Option.map _ (gN _ _ [some (.str n)] _)=_
  rw[j6 (p:=fun r=>decide (r.1=n)) (f:=fun r=>prD r.2)]
  · unfold d0
    rw[List.map_map]
    rfl
  · intro r _
    have x0:aa ixD (shT r) (.int 0)=some (.str r.1):=by rw[shT,aZ];exact ix0
    have x1:aa ixD (shT r) (.int 1)=some (.int r.2.1):=by rw[shT,aZ];exact bS (n:=1) rfl
    have x2:aa ixD (shT r) (.int 2)=some (.int r.2.2):=by rw[shT,aZ];exact bS (n:=2) rfl
    refine⟨?_,fun _=> ?_⟩
    · skip
      k_search(x0)
    · skip
      k_search(x1,x2,prD)
 k_search(hc)
def ub(p:Int×Int)(a b:Int):Bool:=decide (a<27720*p.2)&&decide (27720*p.1<b)
theorem xS{c:Int}{bs:List Br}(hl:1≤bs.length)(h6:bs.length≤6):∃sh:List (Str×Int×Int),sh.length≤3∧iI [.int c, .lst (bs.map Br.t5)]=some (.lst (sh.map shT)):=by
 have h1:=nJ (c:=c) (f:=31337) (by o_shape) (by o_shape)
 have nn:=gc c 31337
 generalize kO c 31337=one at h1 nn
 obtain⟨n,hn⟩:∃n:Nat,one%4=(n:Int):=⟨(one%4).toNat,by o_shape⟩
 obtain⟨e',hloop,sh,o4,o5,o6,hln,rfl⟩:=gT (g:=nmG 4) (b:=lB7) (ds:=(List.range n).map fun(i:Nat)=>D.int (0+(i:Int))) (env:=[some (.int c),some (.lst (bs.map Br.t5)),some (.int one),some (.lst []),none,none,none])
  (fun i e=>∃sh:List (Str×Int×Int),∃o4 o5 o6,sh.length=i∧e=[some (.int c),some (.lst (bs.map Br.t5)),some (.int one),some (.lst (sh.map shT)),o4,o5,o6]) ⟨[],none,none,none,rfl,rfl⟩ (by
   rintro i d e hd ⟨sh,o4,o5,o6,hln,rfl⟩
   rw[List.getElem?_map] at hd
   obtain⟨k,hk,rfl⟩:=Option.map_eq_some_iff.mp hd
   obtain⟨hk8,hk⟩:=List.getElem?_eq_some_iff.mp hk
   rw[List.getElem_range] at hk
   subst hk
   have hin:i<n:=by simpa using hk8
   have h2:=nJ (c:=c+(i:Int)) (f:=22381) (by o_shape) (by o_shape)
   have nn2:=gc (c+(i:Int)) 22381
   generalize kO (c+(i:Int)) 22381=two at h2 nn2
   have j1:0≤two/120%(bs.length:Int):=Int.emod_nonneg _ (by o_shape)
   have j2:two/120%(bs.length:Int)<bs.length:=Int.emod_lt_of_pos _ (by o_shape)
   obtain⟨k,hk⟩:∃k:Nat,two/120%(bs.length:Int)=(k:Int):=⟨(two/120%(bs.length:Int)).toNat,by o_shape⟩
   obtain⟨b,hb⟩:∃b,bs[k]? =some b:=⟨bs[k]'(by o_shape),List.getElem?_eq_getElem (by o_shape)⟩
   have hbx:=qq (f:=Br.t5) hb
   have b0:aa ixD b.t5 (.int 0)=some (.str b.name):=by rw[Br.t5,aZ,su]
   have q:sh.length<1000000:=by o_shape
   refine⟨_,rfl,[some (.int c),some (.lst (bs.map Br.t5)),some (.int one),some (.lst ((sh++[(b.name,two%120,two%120+1+two/1000%60)]).map shT)),some (.int (0+(i:Int))),some (.int two),some (.int (two%120))], ?_,sh++[(b.name,two%120,two%120+1+two/1000%60)],_,_,_,by simp[hln],rfl⟩
   generalize hk1:c+(i:Int)=k1 at h2
   rw[List.map_append,List.map_cons,List.map_nil]
   have e:shT (b.name,two%120,two%120+1+two/1000%60)= .tup [.str b.name, .int (two%120), .int (two%120+1+two/1000%60)]:=rfl
   rw[e]
   ktf_call(Int.zero_add,hk1,h2)
   ktf_call(aB)
   k_search(Int.zero_add,hk,hbx,b0,q)
   )
 rw[List.length_map,List.length_range] at hln
 refine⟨sh,by o_shape, ?_⟩
 rw[iI,ap]
 refine bR ?_
 show fJ [some (.int c),some (.lst (bs.map Br.t5)),none,none,none,none,none]=_
 unfold fJ
 have hr:aa iG [.int (n:Int)]=some ((List.range n).map fun(i:Nat)=>D.int (0+(i:Int))):=by
  have:=ko (j:=(n:Int)) (by o_shape)
  rw[Int.toNat_natCast] at this
  exact this
 ktf_call(h1)
 ktf_call(h1)
 ktf_call(hn,hr,hloop)
 k_search(h1)
theorem DN{i:Int}:lE [.int i]=some (frD (i,1)):=by
 rw[lE,ap]
 refine cA ?_
 show kj [some (.int i)]=_
 unfold kj frD
 k_search(aB)
abbrev I3:=Int×Int×Int
def hz(L:List I3)(t:Int):Int:=(L.map fun x=>if x.1≤t∧t<x.2.1 then x.2.2 else 0).sum
theorem xT{L M:List I3}{t:Int}:hz (L++M) t=hz L t+hz M t:=by unfold hz;rw[List.map_append,List.sum_append]
theorem eX{x:I3}{L:List I3}{t:Int}:hz (x::L) t=(if x.1≤t∧t<x.2.1 then x.2.2 else 0)+hz L t:=by unfold hz;rw[List.map_cons,List.sum_cons]
theorem Az:∀{L:List I3} {t u:Int},(∀x∈L,0≤x.2.2)→(∀x∈L,x.1≤t∧t<x.2.1→x.1≤u∧u<x.2.1)→hz L t≤hz L u
 |[],_,_,_,_=>Int.le_refl _
 |x::L,t,u,h0,h=>by
  have ih:=Az (L:=L) (t:=t) (u:=u) (fun y hy=>h0 y (List.mem_cons_of_mem _ hy)) fun y hy=>h y (List.mem_cons_of_mem _ hy)
  have x0:=h0 x List.mem_cons_self
  have x1:=h x List.mem_cons_self
  rw[eX,eX]
  by_cases c:x.1≤t∧t<x.2.1
  · rw[if_pos c,if_pos (x1 c)];omega
  · rw[if_neg c];split<;>omega
theorem DO{L:List I3}{t u:Int}(h:∀x∈L,(x.1≤t∧t<x.2.1)↔(x.1≤u∧u<x.2.1)):hz L t=hz L u:=by
 unfold hz
 congr 1
 exact List.map_congr_left fun x hx=>by simp only[h x hx]
theorem uc{L:List I3}{t:Int}(h:hz L t≠0):∃x∈L,x.1≤t∧t<x.2.1:=by
 induction L with
 |nil=>exact absurd rfl h
 |cons x L ih=>
  by_cases c:x.1≤t∧t<x.2.1
  · exact⟨x,List.mem_cons_self,c⟩
  · rw[eX,if_neg c,Int.zero_add] at h
    obtain⟨y,hy,q⟩:=ih h
    exact⟨y,List.mem_cons_of_mem _ hy,q⟩
theorem xU{L:List I3}{t:Int}(h:∃x∈L,x.1≤t∧t<x.2.1):∃x∈L,(x.1≤t∧t<x.2.1)∧∀y∈L,y.1≤t∧t<y.2.1→y.1≤x.1:=by
 induction L with
 |nil=>
  obtain⟨x,hx,_⟩:=h
  cases hx
 |cons x L ih=>
  by_cases c:∃y∈L,y.1≤t∧t<y.2.1
  · obtain⟨y,hy,q,m⟩:=ih c
    by_cases d:(x.1≤t∧t<x.2.1)∧y.1≤x.1
    · refine⟨x,List.mem_cons_self,d.1,fun z hz a=> ?_⟩
      rcases List.mem_cons.mp hz with rfl|hz
      · exact Int.le_refl _
      · exact Int.le_trans (m z hz a) d.2
    · refine⟨y,List.mem_cons_of_mem _ hy,q,fun z hz a=> ?_⟩
      rcases List.mem_cons.mp hz with rfl|hz
      · omega
      · exact m z hz a
  · obtain⟨z,hz,q⟩:=h
    rcases List.mem_cons.mp hz with rfl|hz
    · refine⟨z,List.mem_cons_self,q,fun y hy a=> ?_⟩
      rcases List.mem_cons.mp hy with rfl|hy
      · exact Int.le_refl _
      · exact absurd ⟨y,hy,a⟩ c
    · exact absurd ⟨z,hz,q⟩ c
theorem Ce{L:List I3}{B:Int}(h0:0≤B)(nn:∀x∈L,0≤x.2.2)(h:∀x∈L,hz L x.1≤B)(t:Int):hz L t≤B:=by
 by_cases c:hz L t=0
 · rw[c];exact h0
 · obtain⟨x,hx,q,m⟩:=xU (uc c)
   refine Int.le_trans (Az nn fun y hy a=> ?_) (h x hx)
   have:=m y hy a
   omega
def sft(e:Int)(L:List I3):List I3:=L.map fun x=>(x.1+e,x.2.1+e,x.2.2)
theorem ud{e t:Int}:∀{L:List I3},hz (sft e L) t=hz L (t-e)
 |[]=>rfl
 |x::L=>by
  show hz ((x.1+e,x.2.1+e,x.2.2)::sft e L) t=_
  rw[eX,eX,ud]
  congr 1
  by_cases c:x.1+e≤t∧t<x.2.1+e
  · rw[if_pos c,if_pos (by omega)]
  · rw[if_neg c,if_neg (by omega)]
def scl(s:Int)(L:List I3):List I3:=L.map fun x=>(s*x.1,s*x.2.1,x.2.2)
theorem mx{s t:Int}(hs:0<s):∀{L:List I3},hz (scl s L) t=hz L (t/s)
 |[]=>rfl
 |x::L=>by
  show hz ((s*x.1,s*x.2.1,x.2.2)::scl s L) t=_
  rw[eX,eX,mx hs]
  congr 1
  have a1:s*x.1≤t↔x.1≤t/s:=by rw[Int.le_ediv_iff_mul_le hs,Int.mul_comm]
  have a2:t<s*x.2.1↔t/s<x.2.1:=by rw[Int.ediv_lt_iff_lt_mul hs,Int.mul_comm]
  by_cases c:s*x.1≤t∧t<s*x.2.1
  · rw[if_pos c,if_pos ⟨a1.mp c.1,a2.mp c.2⟩]
  · rw[if_neg c,if_neg fun q=>c ⟨a1.mpr q.1,a2.mpr q.2⟩]
def stp(f:Int→Int):List Int→List I3
 |b::e::r=>(b,e,f b)::stp f (e::r)
 |_=>[]
structure StOk(L S:List I3):Prop where
 lt:∀x∈S,x.1<x.2.1
 eq:∀x∈S,∀t,x.1≤t→t<x.2.1→hz L t=x.2.2
 all:∀t,hz L t≠0→∃x∈S,x.1≤t∧t<x.2.1
theorem qw{f:Int→Int}:∀{ms:List Int} {x:I3},x∈stp f ms→∃ps r,ms=ps++x.1::x.2.1::r∧x.2.2=f x.1
 |[],_,h=>by cases h
 |[_],_,h=>by cases h
 |b::e::r,x,h=>by
  rcases List.mem_cons.mp h with rfl|h
  · exact⟨[],r,rfl,rfl⟩
  · obtain⟨ps,q,e1,e2⟩:=qw h
    exact⟨b::ps,q,by rw[e1];rfl,e2⟩
theorem vx{f:Int→Int}{t c:Int}:∀{ms:List Int} {a:Int},ms.Pairwise (· < ·)→a∈ms→c∈ms→a≤t→t<c→∃x∈stp f ms,x.1≤t∧t<x.2.1
 |[],_,_,h,_,_,_=>by cases h
 |[b],a,_,h,h2,h3,h4=>by
  rw[List.mem_singleton] at h h2
  omega
 |b::e::r,a,p,h,h2,h3,h4=>by
  have q:=List.pairwise_cons.mp p
  by_cases c1:t<e
  · refine⟨(b,e,f b),List.mem_cons_self, ?_,c1⟩
    rcases List.mem_cons.mp h with rfl|h
    · exact h3
    · exact Int.le_of_lt (Int.lt_of_lt_of_le (q.1 a h) h3)
  · have he:c∈e::r:=by
     rcases List.mem_cons.mp h2 with rfl|h2
     · have:=q.1 e List.mem_cons_self
       omega
     · exact h2
    obtain⟨x,hx,k⟩:=vx (f:=f) (ms:=e::r) (a:=e) q.2 List.mem_cons_self he (by omega) h4
    exact⟨x,List.mem_cons_of_mem _ hx,k⟩
theorem DP{L:List I3}{ms:List Int}{f:Int→Int}(hs:ms.Pairwise (· < ·))(hm:∀x∈L,x.1∈ms∧x.2.1∈ms)(hf:∀m∈ms,f m=hz L m):StOk L (stp f ms) where
 lt x hx:=by
  obtain⟨ps,r,e,_⟩:=qw hx
  rw[e] at hs
  exact(List.pairwise_cons.mp (List.pairwise_append.mp hs).2.1).1 _ List.mem_cons_self
 eq x hx t h1 h2:=by
  obtain⟨ps,r,e,ef⟩:=qw hx
  have hx1:x.1∈ms:=by rw[e];simp
  rw[ef,hf _ hx1]
  rw[e] at hs
  obtain⟨s1,s2,s3⟩:=List.pairwise_append.mp hs
  obtain⟨s4,s5⟩:=List.pairwise_cons.mp s2
  obtain⟨s6,s7⟩:=List.pairwise_cons.mp s5
  have key:∀k∈ms,k≤t↔k≤x.1:=fun k hk=>by
   rw[e] at hk
   rcases List.mem_append.mp hk with q|q
   · have:=s3 k q x.1 List.mem_cons_self
     omega
   · rcases List.mem_cons.mp q with rfl|q
     · omega
     · rcases List.mem_cons.mp q with rfl|q
       · have:=s4 x.2.1 List.mem_cons_self
         omega
       · have:=s6 k q
         have:=s4 k (List.mem_cons_of_mem _ q)
         omega
  refine DO fun y hy=> ?_
  have k1:=key _ (hm y hy).1
  have k2:=key _ (hm y hy).2
  omega
 all t h:=by
  obtain⟨x,hx,a,b⟩:=uc h
  exact vx hs (hm x hx).1 (hm x hx).2 a b
def crw(B:Int)(S T:List I3):List (Int×Int):=S.flatMap fun x=>(T.filter fun y=>decide (B<x.2.2+y.2.2)).map fun y=>(x.1-y.2.1,x.2.1-y.1)
def InS(e:Int)(p:Int×Int):Prop:=p.1<e∧e<p.2
theorem zE{O W S T:List I3}{B e:Int}(hS:StOk O S)(hT:StOk W T)(hO:∀t,hz O t≤B)(hW:∀t,hz W t≤B):(∃p∈crw B S T,InS e p)↔∃t,B<hz O t+hz W (t-e):=by
 constructor
 · rintro⟨p,hp,h⟩
   obtain⟨x,hx,hp⟩:=List.mem_flatMap.mp hp
   obtain⟨y,hy,rfl⟩:=List.mem_map.mp hp
   obtain⟨hy,hB⟩:=List.mem_filter.mp hy
   have hB:B<x.2.2+y.2.2:=by simpa using hB
   have l1:=hS.lt x hx
   have l2:=hT.lt y hy
   unfold InS at h
   dsimp only at h
   by_cases c:x.1≤y.1+e
   · refine⟨y.1+e, ?_⟩
     rw[hS.eq x hx _ c (by omega),hT.eq y hy _ (by omega) (by omega)]
     exact hB
   · refine⟨x.1, ?_⟩
     rw[hS.eq x hx _ (Int.le_refl _) l1,hT.eq y hy _ (by omega) (by omega)]
     exact hB
 · rintro⟨t,ht⟩
   have o1:=hO t
   have w1:=hW (t-e)
   obtain⟨x,hx,a,b⟩:=hS.all t (by omega)
   obtain⟨y,hy,c,d⟩:=hT.all (t-e) (by omega)
   rw[hS.eq x hx t a b,hT.eq y hy _ c d] at ht
   refine⟨_,List.mem_flatMap.mpr ⟨x,hx,List.mem_map.mpr ⟨y,List.mem_filter.mpr ⟨hy,by simpa using ht⟩,rfl⟩⟩, ?_⟩
   unfold InS
   dsimp only
   omega
def shs(P:List (Int×Int))(W:List I3):List (Int×Int):=P.flatMap fun p=>W.map fun y=>(p.1-y.2.1,p.2-y.1)
def Frb(B:Int)(O W:List I3)(P:List (Int×Int))(e:Int):Prop:=(∃t,B<hz O t+hz W (t-e))∨∃p∈P,∃y∈W,y.1+e<p.2∧p.1<y.2.1+e
theorem zF{O W S T:List I3}{P:List (Int×Int)}{B e:Int}(hS:StOk O S)(hT:StOk W T)(hO:∀t,hz O t≤B)(hW:∀t,hz W t≤B):(∃p∈crw B S T++shs P W,InS e p)↔Frb B O W P e:=by
 unfold Frb
 rw[←zE hS hT hO hW]
 constructor
 · rintro⟨p,hp,h⟩
   rcases List.mem_append.mp hp with hp|hp
   · exact .inl ⟨p,hp,h⟩
   · obtain⟨q,hq,hp⟩:=List.mem_flatMap.mp hp
     obtain⟨y,hy,rfl⟩:=List.mem_map.mp hp
     refine .inr ⟨q,hq,y,hy, ?_⟩
     unfold InS at h
     dsimp only at h
     omega
 · rintro(⟨p,hp,h⟩|⟨q,hq,y,hy,h⟩)
   · exact⟨p,List.mem_append.mpr (.inl hp),h⟩
   · refine⟨_,List.mem_append.mpr (.inr (List.mem_flatMap.mpr ⟨q,hq,List.mem_map.mpr ⟨y,hy,rfl⟩⟩)), ?_⟩
     unfold InS
     dsimp only
     omega
def lo1:List (Int×Int)→Int→Int
 |[],m=>m
 |p::r,m=>lo1 r (if p.1<m∧m<p.2 then p.2 else m)
theorem sB:∀{L:List (Int×Int)} {m:Int},(∀p∈L,m≤p.1)→lo1 L m=m
 |[],_,_=>rfl
 |p::r,m,h=>by
  have:=h p List.mem_cons_self
  rw[lo1,if_neg (by omega)]
  exact sB fun q hq=>h q (List.mem_cons_of_mem _ hq)
theorem uf:∀{L:List (Int×Int)} {m:Int},L.Pairwise leP→m≤lo1 L m∧(∀p∈L,¬InS (lo1 L m) p)∧∀e,m≤e→e<lo1 L m→∃p∈L,InS e p
 |[],m,_=>⟨Int.le_refl _,(fun _ h=>by cases h),fun e h1 h2=>absurd (show e<m from h2) (by omega)⟩
 |p::r,m,h=>by
  obtain⟨h1,h2⟩:=List.pairwise_cons.mp h
  by_cases c:p.1<m∧m<p.2
  · obtain⟨i1,i2,i3⟩:=uf (m:=p.2) h2
    rw[lo1,if_pos c]
    refine⟨by omega,fun q hq=> ?_,fun e e1 e2=> ?_⟩
    · rcases List.mem_cons.mp hq with rfl|hq
      · exact fun z=>absurd z.2 (by omega)
      · exact i2 q hq
    · by_cases c2:p.2≤e
      · obtain⟨q,hq,z⟩:=i3 e c2 e2
        exact⟨q,List.mem_cons_of_mem _ hq,z⟩
      · exact⟨p,List.mem_cons_self,by omega,by omega⟩
  · obtain⟨i1,i2,i3⟩:=uf (m:=m) h2
    rw[lo1,if_neg c]
    refine⟨i1,fun q hq=> ?_,fun e e1 e2=> ?_⟩
    · rcases List.mem_cons.mp hq with rfl|hq
      · intro z
        unfold InS at z
        by_cases c2:m≤q.1
        · have:lo1 r m=m:=sB fun y hy=>by
           have:=Tim.ltP_no.mp (h1 y hy)
           omega
          omega
        · omega
      · exact i2 q hq
    · obtain⟨q,hq,z⟩:=i3 e e1 e2
      exact⟨q,List.mem_cons_of_mem _ hq,z⟩
def dsm(kv:List (Int×Int))(t:Int):Int:=(kv.map fun p=>if p.1≤t then p.2 else 0).sum
def sg(L:List I3)(t:Int):Int:=(L.map fun x=>(if x.1≤t then x.2.2 else 0)-if x.2.1≤t then x.2.2 else 0).sum
theorem AA{t:Int}:∀{L:List I3},(∀x∈L,x.1<x.2.1)→sg L t=hz L t
 |[],_=>rfl
 |x::L,h=>by
  have ih:=AA (t:=t) (L:=L) fun y hy=>h y (List.mem_cons_of_mem _ hy)
  have x0:=h x List.mem_cons_self
  rw[eX,←ih]
  show ((if x.1≤t then x.2.2 else 0)-if x.2.1≤t then x.2.2 else 0)+sg L t=_
  congr 1
  by_cases a:x.1≤t
  · by_cases b:x.2.1≤t
    · rw[if_pos a,if_pos b,if_neg (by omega)];omega
    · rw[if_pos a,if_neg b,if_pos (by omega)];omega
  · rw[if_neg a,if_neg (by omega),if_neg (by omega)];omega
abbrev Q4:=Int×Int×Int×Int
def qT(q:Q4):D:= .tup [.int q.1, .int q.2.1, .int q.2.2.1, .int q.2.2.2]
def q3(q:Q4):I3:=(q.1,q.2.1,q.2.2.2)
def sq(s:Sy):Q4:=(prt s.on,prt s.off,s.low,s.high)
theorem AB{ss:List Sy}:ss.map spT=(ss.map sq).map qT:=by rw[List.map_map];rfl
def act(m:Int)(q:Q4):Bool:=decide (q.1≤m)&&decide (m<q.2.1)
theorem xV{m:Int}:∀{qs:List Q4},((qs.filter (act m)).map fun q=>q.2.2.2).sum=hz (qs.map q3) m
 |[]=>rfl
 |q::qs=>by
  rw[List.map_cons,eX,←xV]
  show _=(if q.1≤m∧m<q.2.1 then q.2.2.2 else 0)+_
  by_cases c:q.1≤m∧m<q.2.1
  · rw[if_pos c,List.filter_cons_of_pos (by unfold act;simpa using c),List.map_cons,List.sum_cons]
  · rw[if_neg c,List.filter_cons_of_neg (by unfold act;simpa using c),Int.zero_add]
theorem Cf{qs:List Q4}{m:Int}(hl:qs.length<10000):gQ [.lst (qs.map qT), .int m]=some (.int (hz (qs.map q3) m)):=by
 rw[gQ,ap]
 refine cA ?_
 show fK [some (.lst (qs.map qT)),some (.int m)]=_
 unfold fK
 have go:∀ts:List Q4,bT 4 (bD (chD (aa leD) (aa ltD) (vD 0) (vD 4) (vD 1))) (vD 3) [some (.int m)] (ts.map qT)=some (((ts.filter (act m)).map fun q=>q.2.2.2).map D.int):=by
  intro ts
  induction ts with
  |nil=>rfl
  |cons q ts ih=>
   rw[List.map_cons]
   show bT 4 _ _ _ (.tup [.int q.1, .int q.2.1, .int q.2.2.1, .int q.2.2.2]::ts.map qT)=_
   rw[bT,if_pos (show [D.int q.1, .int q.2.1, .int q.2.2.1, .int q.2.2.2].length=4 from rfl),ih]
   have ec:bD (chD (aa leD) (aa ltD) (vD 0) (vD 4) (vD 1)) ([D.int q.1, .int q.2.1, .int q.2.2.1, .int q.2.2.2].map some++[some (.int m)])=some (act m q):=by
    show bD _ [some (.int q.1),some (.int q.2.1),some (.int q.2.2.1),some (.int q.2.2.2),some (.int m)]=_
    unfold act
    by_cases c1:q.1≤m
    · skip
      k_search(chD,decide_eq_true c1,Bool.true_and)
    · skip
      k_search(chD,decide_eq_false c1,Bool.false_eq_true,Bool.false_and)
   rw[ec,aB]
   cases e:act m q with
   |true=>rw[ite_tt,List.filter_cons_of_pos e];rfl
   |false=>rw[ite_ff,List.filter_cons_of_neg (by simp[e])]
 have hc:gX 4 (itD (vD 0)) (bD (chD (aa leD) (aa ltD) (vD 0) (vD 4) (vD 1))) (vD 3) [1] [some (.lst (qs.map qT)),some (.int m)]=some (.lst (((qs.filter (act m)).map fun q=>q.2.2.2).map D.int)):=by
  unfold gX
  simp only[itD,gJ,aB,aW]
  rw[if_pos (by rw[List.length_map];o_shape)]
  show Option.map _ (bT _ _ _ [some (.int m)] _)=_
  rw[go qs]
  rfl
 rw[←xV]
 k_search(hc,Ca)
def alw(sh:List (Int×Int))(B:Int)(ss own:List Q4):Bool:=(sh.all fun p=>own.all fun s=> !ub p s.1 s.2.1)&&(ss++own).all fun s=>decide (hz ((ss++own).map q3) s.1≤B)
theorem ug{b:Br}{sh:List (Str×Int×Int)}{ss own:List Q4}(hl:sh.length<1000)(h1:(ss++own).length<1000):cu [b.t5, .lst (sh.map shT), .lst (ss.map qT), .lst (own.map qT)]=some (.bl (alw (d0 sh b.name) b.bears ss own)):=by
 rw[cu,ap]
 refine cA ?_
 show dO [some b.t5,some (.lst (sh.map shT)),some (.lst (ss.map qT)),some (.lst (own.map qT)),none,none,none,none,none,none,none,none]=_
 unfold dO alw
 have b0:aa ixD b.t5 (.int 0)=some (.str b.name):=by rw[Br.t5,aZ,su]
 have b2:aa ixD b.t5 (.int 2)=some (.int b.bears):=by rw[Br.t5,aZ,DL]
 have hsf:=oV (n:=b.name) hl
 have first:=lI (mk:=prD) (g:=gU [4,5]) (b:=(dD (mk Ff (itD (vD 3))) (gU [6,7,8,9]) (ifS (lW (bD (oD (aa ltD) (vD 6) (oD (aa dC) (cD (.int 27720)) (vD 5)))) (bD (oD (aa ltD) (oD (aa dC) (cD (.int 27720)) (vD 4)) (vD 7)))) (bC (cD (.bl false))) nxS))) (xs:=d0 sh b.name) (env:=[some b.t5,some (.lst (sh.map shT)),some (.lst (ss.map qT)),some (.lst (own.map qT)),none,none,none,none,none,none,none,none]) (p:=fun p=>own.all fun s=> !ub p s.1 s.2.1)
  (Pv:=fun e=>∃o4 o5 o6 o7 o8 o9,e=[some b.t5,some (.lst (sh.map shT)),some (.lst (ss.map qT)),some (.lst (own.map qT)),o4,o5,o6,o7,o8,o9,none,none]) ⟨_,_,_,_,_,_,rfl⟩ (by
   rintro p _ e ⟨o4,o5,o6,o7,o8,o9,rfl⟩
   refine⟨_,rfl, ?_⟩
   have second:=lI (mk:=qT) (g:=gU [6,7,8,9]) (b:=(ifS (lW (bD (oD (aa ltD) (vD 6) (oD (aa dC) (cD (.int 27720)) (vD 5)))) (bD (oD (aa ltD) (oD (aa dC) (cD (.int 27720)) (vD 4)) (vD 7)))) (bC (cD (.bl false))) nxS)) (xs:=own) (env:=[some b.t5,some (.lst (sh.map shT)),some (.lst (ss.map qT)),some (.lst (own.map qT)),some (.int p.1),some (.int p.2),o6,o7,o8,o9,none,none]) (p:=fun s=> !ub p s.1 s.2.1)
    (Pv:=fun e=>∃o6 o7 o8 o9,e=[some b.t5,some (.lst (sh.map shT)),some (.lst (ss.map qT)),some (.lst (own.map qT)),some (.int p.1),some (.int p.2),o6,o7,o8,o9,none,none]) ⟨_,_,_,_,rfl⟩ (by
     rintro s _ e ⟨o6,o7,o8,o9,rfl⟩
     refine⟨_,rfl, ?_⟩
     unfold ub
     by_cases k1:s.1<27720*p.2
     · by_cases k2:27720*p.1<s.2.1
       · refine .inr ⟨by rw[decide_eq_true k1,decide_eq_true k2];rfl, ?_⟩
         k_search(decide_eq_true k1,decide_eq_true k2)
       · refine .inl ⟨by rw[decide_eq_true k1,decide_eq_false k2];rfl,[some b.t5,some (.lst (sh.map shT)),some (.lst (ss.map qT)),some (.lst (own.map qT)),some (.int p.1),some (.int p.2),some (.int s.1),some (.int s.2.1),some (.int s.2.2.1),some (.int s.2.2.2),none,none], ?_,_,_,_,_,rfl⟩
         k_search(decide_eq_true k1,decide_eq_false k2,Bool.false_eq_true)
     · refine .inl ⟨by rw[decide_eq_false k1];rfl,[some b.t5,some (.lst (sh.map shT)),some (.lst (ss.map qT)),some (.lst (own.map qT)),some (.int p.1),some (.int p.2),some (.int s.1),some (.int s.2.1),some (.int s.2.2.1),some (.int s.2.2.2),none,none], ?_,_,_,_,_,rfl⟩
       k_search(decide_eq_false k1,Bool.false_eq_true)
     )
   rcases second with⟨a1,e',a2,q6,q7,q8,q9,rfl⟩|⟨a1,a2⟩
   · refine .inl ⟨a1,[some b.t5,some (.lst (sh.map shT)),some (.lst (ss.map qT)),some (.lst (own.map qT)),some (.int p.1),some (.int p.2),q6,q7,q8,q9,none,none], ?_,_,_,_,_,_,_,rfl⟩
     k_search(aW,a2)
   · refine .inr ⟨a1, ?_⟩
     k_search(aW,a2)
   )
 rcases first with⟨a1,e',a2,o4,o5,o6,o7,o8,o9,rfl⟩|⟨a1,a2⟩
 · have ad:=nM (f:=qT) (xs:=ss) (ys:=own) (by rw[←List.length_append];o_shape)
   have third:=lI (mk:=qT) (g:=nmG 11) (b:=(ifS (bD (oD (aa gtD) (av gQ (ah (vD 10) (ah (oD (aa ixD) (vD 11) (cD (.int 0))) au))) (oD (aa ixD) (vD 0) (cD (.int 2))))) (bC (cD (.bl false))) nxS)) (xs:=ss++own) (env:=[some b.t5,some (.lst (sh.map shT)),some (.lst (ss.map qT)),some (.lst (own.map qT)),o4,o5,o6,o7,o8,o9,some (.lst ((ss++own).map qT)),none]) (p:=fun s=>decide (hz ((ss++own).map q3) s.1≤b.bears))
    (Pv:=fun e=>∃o11,e=[some b.t5,some (.lst (sh.map shT)),some (.lst (ss.map qT)),some (.lst (own.map qT)),o4,o5,o6,o7,o8,o9,some (.lst ((ss++own).map qT)),o11]) ⟨_,rfl⟩ (by
     rintro s hsm e ⟨o11,rfl⟩
     refine⟨_,rfl, ?_⟩
     have hh:=Cf (m:=s.1) (qs:=ss++own) (by o_shape)
     have s0:aa ixD (qT s) (.int 0)=some (.int s.1):=by rw[qT,aZ];exact ix0
     generalize hz ((ss++own).map q3) s.1=hi at*
     by_cases k1:b.bears<hi
     · refine .inr ⟨decide_eq_false (by o_shape), ?_⟩
       k_search(s0,hh,b2,decide_eq_true k1)
     · refine .inl ⟨decide_eq_true (by o_shape),[some b.t5,some (.lst (sh.map shT)),some (.lst (ss.map qT)),some (.lst (own.map qT)),o4,o5,o6,o7,o8,o9,some (.lst ((ss++own).map qT)),some (qT s)], ?_,_,rfl⟩
       k_search(s0,hh,b2,decide_eq_false k1,Bool.false_eq_true)
     )
   rw[a1,Bool.true_and]
   rcases third with⟨d1,e',d2,o11,rfl⟩|⟨d1,d2⟩
   · rw[d1]
     ktf_call(b0,hsf,aW,a2)
     ktf_call(ad)
     ktf_call(aW,d2)
     k_search(hl)
   · rw[d1]
     ktf_call(b0,hsf,aW,a2)
     ktf_call(ad)
     refine qu ?_
     k_search(aW,d2)
 · rw[a1,Bool.false_and]
   refine qu ?_
   k_search(b0,hsf,aW,a2)
theorem sC{α:Type}{f:α→D}{xs:List α}{k:Nat}:aa nc (.lst (xs.map f)) (some (k:Int)) none=some (.lst ((xs.drop k).map f)):=by
 rw[ap]
 show some (D.lst (m9 _ _ _))=_
 rw[lF]
 unfold si
 rw[HT.sIx_nat,HT.sIx_none,List.take_of_length_le (by simp),show xs.drop (min k xs.length)=xs.drop k from by
  by_cases h:k≤xs.length
  · rw[Nat.min_eq_left h]
  · rw[Nat.min_eq_right (by omega),List.drop_of_length_le (Nat.le_refl _),List.drop_of_length_le (by omega)]]
theorem xW{b d:Int}(hb:0<b)(hd:0<d)(h1:b ∣ 27720)(h2:d ∣ 27720):0<Fr.G b d∧Fr.G b d≤b∧0<b*d/Fr.G b d∧b ∣ b*d/Fr.G b d∧d ∣ b*d/Fr.G b d∧b*d/Fr.G b d ∣ 27720:=by
 obtain⟨n,rfl⟩:=Int.eq_ofNat_of_zero_le (Int.le_of_lt hb)
 obtain⟨m,rfl⟩:=Int.eq_ofNat_of_zero_le (Int.le_of_lt hd)
 have hn:0<n:=by omega
 have hm:0<m:=by omega
 have e:((n:Nat):Int)*(m:Int)/Fr.G (n:Int) (m:Int)=((Nat.lcm n m:Nat):Int):=by
  unfold Fr.G Nat.lcm
  rw[Int.gcd_natCast_natCast]
  norm_cast
 rw[e]
 have d1:n ∣ 27720:=by exact_mod_cast h1
 have d2:m ∣ 27720:=by exact_mod_cast h2
 have g0:0<Nat.gcd n m:=Nat.gcd_pos_of_pos_left _ hn
 have g1:Nat.gcd n m≤n:=Nat.le_of_dvd hn (Nat.gcd_dvd_left n m)
 refine⟨?_, ?_, ?_, ?_, ?_, ?_⟩
 · unfold Fr.G;rw[Int.gcd_natCast_natCast];omega
 · unfold Fr.G;rw[Int.gcd_natCast_natCast];omega
 · exact_mod_cast Nat.lcm_pos hn hm
 · exact_mod_cast Nat.dvd_lcm_left n m
 · exact_mod_cast Nat.dvd_lcm_right n m
 · exact_mod_cast Nat.lcm_dvd d1 d2
theorem DQ{qs:List (Int×Int)}(h:∀q∈qs,Dv q):∃U:Int,0<U∧U ∣ 27720∧(∀q∈qs,q.2 ∣ U)∧eU [.lst (qs.map frD)]=some (.int U):=by
 have loop:∀(ds:List (Int×Int)) (b:Int) (o:Option D),0<b→b ∣ 27720→(∀q∈ds,Dv q)→∃U o',0<U∧U ∣ 27720∧b ∣ U∧(∀q∈ds,q.2 ∣ U)∧bE (nmG 2) ((aH 1 (mk [false,false,false] (oD (aa ij) (oD (aa dC) (vD 1) (oD (aa ixD) (vD 2) (cD (.int 1)))) (av cX (ah (vD 1) (ah (oD (aa ixD) (vD 2) (cD (.int 1))) au))))))) (ds.map frD) [some (.lst (qs.map frD)),some (.int b),o]=some (.nx [some (.lst (qs.map frD)),some (.int U),o']):=by
  intro ds
  induction ds with
  |nil=>intro b o b0 b1 _;exact⟨b,o,b0,b1,Int.dvd_refl b,(fun _ h=>by cases h),rfl⟩
  |cons q ds ih=>
   intro b o b0 b1 hq
   have dq:=hq q List.mem_cons_self
   obtain⟨f1,f2,f3,f4,f5,f6⟩:=xW b0 dq.pos b1 dq.dv
   obtain⟨U,o',u0,u1,u2,u3,hf⟩:=ih (b*q.2/Fr.G b q.2) (some (frD q)) f3 f6 fun x hx=>hq x (List.mem_cons_of_mem _ hx)
   refine⟨U,o',u0,u1,Int.dvd_trans f4 u2,fun x hx=> ?_, ?_⟩
   · rcases List.mem_cons.mp hx with rfl|hx
     · exact Int.dvd_trans f5 u2
     · exact u3 x hx
   · have bl:=Int.le_of_dvd (by decide) b1
     have q0:=dq.pos
     have q1:=dq.le.le
     have x1:aa ixD (frD q) (.int 1)=some (.int q.2):=by rw[frD,aZ,nH]
     have hg:=Ax (a:=b) (b:=q.2) (by omega)
     have hfd:=je (i:=b*q.2) (j:=Fr.G b q.2) (by omega)
     have hb:((aH 1 (mk [false,false,false] (oD (aa ij) (oD (aa dC) (vD 1) (oD (aa ixD) (vD 2) (cD (.int 1)))) (av cX (ah (vD 1) (ah (oD (aa ixD) (vD 2) (cD (.int 1))) au))))))) [some (.lst (qs.map frD)),some (.int b),some (frD q)]=some (.nx [some (.lst (qs.map frD)),some (.int (b*q.2/Fr.G b q.2)),some (frD q)]):=by
      generalize Fr.G b q.2=G at*
      generalize b*q.2/G=l at*
      k_search(x1,hg,hfd)
     rw[List.map_cons,bE]
     simp only[nmG,List.set_cons_zero,List.set_cons_succ,aB,hb]
     exact hf
 obtain⟨U,o',u0,u1,u2,u3,hf⟩:=loop qs 1 none (by decide) (Int.one_dvd _) h
 refine⟨U,u0,u1,u3, ?_⟩
 rw[eU,ap]
 refine cA ?_
 show cy [some (.lst (qs.map frD)),none,none]=_
 unfold cy
 ktf_call(aB)
 ktf_call(aW,hf)
 k_search(aB)
def prU(U:Int)(q:Int×Int):Int:=q.1*(U/q.2)
theorem xX{q:Int×Int}{U:Int}(h:Dv q)(u0:0<U)(u1:U ∣ 27720):gD [frD q, .int U]=some (.int (prU U q)):=by
 rw[gD,ap]
 refine cA ?_
 show gC [some (frD q),some (.int U)]=_
 unfold gC prU frD
 have p0:=h.pos
 have p1:=h.le.le
 have ul:=Int.le_of_dvd (by decide) u1
 have r0:0≤U/q.2:=Int.ediv_nonneg (by omega) (by omega)
 have r1:U/q.2≤U:=Int.ediv_le_self _ (by omega)
 have hd:=je (i:=U) (j:=q.2) (by omega)
 generalize U/q.2=r at*
 k_search(aZ,qo,nH,hd)
theorem lJ{q:Int×Int}{U:Int}(u0:0<U)(u1:U ∣ 27720)(h:q.2 ∣ U)(h0:0<q.2):prt q=27720/U*prU U q:=by
 obtain⟨s,hs⟩:=u1
 obtain⟨a,rfl⟩:=h
 unfold prt prU
 have e1:27720/(q.2*a)=s:=by rw[hs];exact Int.mul_ediv_cancel_left s (by omega)
 have e2:q.2*a/q.2=a:=Int.mul_ediv_cancel_left a (by omega)
 have e3:27720/q.2=a*s:=by rw[hs,Int.mul_assoc];exact Int.mul_ediv_cancel_left _ (by omega)
 rw[e1,e2,e3]
 grind
def t3(x:I3):D:= .tup [.int x.1, .int x.2.1, .int x.2.2]
def s3(U:Int)(s:Sy):I3:=(prU U s.on,prU U s.off,s.high)
theorem AC{ss:List Sy}{U:Int}(h:∀s∈ss,s.Dd)(u0:0<U)(u1:U ∣ 27720)(hl:ss.length<1000000):fg [.lst (ss.map Sy.t), .int U]=some (.lst ((ss.map (s3 U)).map t3)):=by
 rw[fg,ap]
 refine bR ?_
 show dR [some (.lst (ss.map Sy.t)),some (.int U)]=_
 unfold dR bC bN
 simp only[itD,gJ,aB,aW]
 rw[if_pos (by rw[List.length_map];exact hl)]
 show Option.bind (Option.map _ (gN _ _ [some (.int U)] _)) _=_
 rw[j5 (f:=fun s=>t3 (s3 U s)),List.map_map]
 · rfl
 · intro s hs
   have h0:aa ixD s.t (.int 0)=some (frD s.on):=by rw[Sy.t,aZ,sy0]
   have h1:aa ixD s.t (.int 1)=some (frD s.off):=by rw[Sy.t,aZ,sy1]
   have h3:aa ixD s.t (.int 3)=some (.int s.high):=by rw[Sy.t,aZ,sy3]
   have p0:=xX (h s hs).on u0 u1
   have p1:=xX (h s hs).off u0 u1
   refine⟨rfl, ?_⟩
   unfold t3 s3
   k_search(h0,h1,h3,p0,p1)
abbrev KVs:=List (Int×Int)
def kvD(kv:KVs):D:= .dk (kv.map fun p=>Sum.inl p.1) (kv.map fun p=> .int p.2)
def kvG:KVs→Int→Int
 |[],_=>0
 |p::r,k=>if p.1=k then p.2 else kvG r k
def kvA:KVs→Int→Int→KVs
 |[],k,x=>[(k,0+x)]
 |p::r,k,x=>if p.1=k then(p.1,p.2+x)::r else p::kvA r k x
theorem hX{i j:Int}:((Sum.inl i:Key)=Sum.inl j)↔i=j:=⟨Sum.inl.inj,fun h=>by rw[h]⟩
theorem xY{k:Int}:∀{kv:KVs},(n6 (kv.map fun p=>(Sum.inl p.1:Key)) (kv.map fun p=>D.int p.2) (Sum.inl k)).getD (.int 0)= .int (kvG kv k)
 |[]=>rfl
 |p::r=>by
  show Option.getD (if(Sum.inl p.1:Key)=Sum.inl k then some (D.int p.2) else _) _=_
  by_cases h:p.1=k
  · rw[if_pos (hX.mpr h),kvG,if_pos h];rfl
  · rw[if_neg fun z=>h (hX.mp z),kvG,if_neg h];exact xY
theorem xZ{kv:KVs}{k:Int}:xj (kvD kv) (.int k) (.int 0)=some (.int (kvG kv k)):=by
 show some (Option.getD _ _)=_
 rw[xY]
theorem x3{k:Int}:∀{kv:KVs},k∈kv.map (·.1)→n6 (kv.map fun p=>(Sum.inl p.1:Key)) (kv.map fun p=>D.int p.2) (Sum.inl k)=some (.int (kvG kv k))
 |[],h=>by cases h
 |p::r,h=>by
  show (if(Sum.inl p.1:Key)=Sum.inl k then some (D.int p.2) else _)=_
  by_cases e:p.1=k
  · rw[if_pos (hX.mpr e),kvG,if_pos e]
  · rw[if_neg fun z=>e (hX.mp z),kvG,if_neg e]
    rcases List.mem_cons.mp h with rfl|h
    · exact absurd rfl e
    · exact x3 h
theorem x4{k:Int}:∀{kv:KVs},k∉kv.map (·.1)→kvG kv k=0
 |[],_=>rfl
 |p::r,h=>by
  rw[kvG,if_neg fun e=>h (by rw[←e];exact List.mem_cons_self)]
  exact x4 fun q=>h (List.mem_cons_of_mem _ q)
theorem j9{k x:Int}:∀{kv:KVs},(kvA kv k x).map (·.1)=if k∈kv.map (·.1) then kv.map (·.1) else kv.map (·.1)++[k]
 |[]=>rfl
 |p::r=>by
  by_cases e:p.1=k
  · rw[kvA,if_pos e,if_pos (by rw[←e];exact List.mem_cons_self)];rfl
  · rw[kvA,if_neg e,List.map_cons,j9]
    by_cases h:k∈r.map (·.1)
    · rw[if_pos h,if_pos (show k∈(p::r).map (·.1) from List.mem_cons_of_mem _ h)];rfl
    · rw[if_neg h,if_neg (show k∉(p::r).map (·.1) from fun q=>(List.mem_cons.mp q).elim (fun z=>e z.symm) h)];rfl
theorem vy{k:Int}{v:D}:∀{kv:KVs},k∉kv.map (·.1)→n8 (kv.map fun p=>(Sum.inl p.1:Key)) (kv.map fun p=>D.int p.2) (Sum.inl k) v=kv.map fun p=>D.int p.2
 |[],_=>rfl
 |p::r,h=>by
  show (if(Sum.inl p.1:Key)=Sum.inl k then v else D.int p.2)::n8 _ _ _ _=_
  rw[if_neg fun z=>h (by rw[←hX.mp z];exact List.mem_cons_self),vy fun q=>h (List.mem_cons_of_mem _ q)]
  rfl
theorem vz{k x:Int}:∀{kv:KVs},k∈kv.map (·.1)→(kv.map (·.1)).Nodup→n8 (kv.map fun p=>(Sum.inl p.1:Key)) (kv.map fun p=>D.int p.2) (Sum.inl k) (.int (kvG kv k+x))=(kvA kv k x).map fun p=>D.int p.2
 |[],h,_=>by cases h
 |p::r,h,nd=>by
  have nd:=List.nodup_cons.mp nd
  show (if(Sum.inl p.1:Key)=Sum.inl k then _ else D.int p.2)::n8 _ _ _ _=_
  by_cases e:p.1=k
  · rw[if_pos (hX.mpr e),kvG,if_pos e,kvA,if_pos e,vy (by rw[←e];exact nd.1)]
    rfl
  · rw[if_neg fun z=>e (hX.mp z),kvG,if_neg e,kvA,if_neg e,vz ((List.mem_cons.mp h).resolve_left fun z=>e z.symm) nd.2]
    rfl
theorem vA{k x:Int}:∀{kv:KVs},k∉kv.map (·.1)→kvA kv k x=kv++[(k,0+x)]
 |[],_=>rfl
 |p::r,h=>by
  rw[kvA,if_neg fun e=>h (by rw[←e];exact List.mem_cons_self),vA fun q=>h (List.mem_cons_of_mem _ q)]
  rfl
theorem Cg{kv:KVs}{k:Int}:((kv.map fun p=>(Sum.inl p.1:Key)).any fun j=>decide (j=Sum.inl k))=decide (k∈kv.map (·.1)):=by
 rw[Bool.eq_iff_iff]
 simp only[List.any_eq_true,decide_eq_true_eq,List.mem_map]
 constructor
 · rintro⟨_,⟨p,hp,rfl⟩,e⟩
   exact⟨p,hp,hX.mp e⟩
 · rintro⟨p,hp,e⟩
   exact⟨_,⟨p,hp,rfl⟩,hX.mpr e⟩
theorem zG{kv:KVs}{k x:Int}(nd:(kv.map (·.1)).Nodup)(hl:kv.length<1000000):uU (kvD kv) (.int k) (.int (kvG kv k+x))=some (kvD (kvA kv k x)):=by
 show (if _ then some (if _ then _ else _) else none)=_
 rw[if_pos (by rw[List.length_map];exact hl),Cg]
 unfold kvD
 by_cases h:k∈kv.map (·.1)
 · rw[if_pos (by simpa using h),vz h nd]
   have:=j9 (k:=k) (x:=x) (kv:=kv)
   rw[if_pos h] at this
   have e:(kvA kv k x).map (fun p=>(Sum.inl p.1:Key))=kv.map fun p=>Sum.inl p.1:=by
    have z:=congrArg (List.map (Sum.inl (β:=Str))) this
    rw[List.map_map,List.map_map] at z
    exact z
   rw[e]
 · rw[if_neg (by simpa using h),vA h,x4 h,List.map_append,List.map_append]
   rfl
theorem qz{k x t:Int}:∀{kv:KVs},dsm (kvA kv k x) t=dsm kv t+if k≤t then x else 0
 |[]=>by
  show (if k≤t then 0+x else 0)+0=0+_
  split<;>omega
 |p::r=>by
  by_cases e:p.1=k
  · rw[kvA,if_pos e]
    show (if p.1≤t then p.2+x else 0)+dsm r t=(if p.1≤t then p.2 else 0)+dsm r t+_
    rw[e]
    split<;>omega
  · rw[kvA,if_neg e]
    show (if p.1≤t then p.2 else 0)+dsm (kvA r k x) t=(if p.1≤t then p.2 else 0)+dsm r t+_
    rw[qz]
    omega
def kvF(kv:KVs)(L:List I3):KVs:=L.foldl (fun kv x=>kvA (kvA kv x.1 x.2.2) x.2.1 (-x.2.2)) kv
structure KvOk(kv:KVs)(L:List I3):Prop where
 nd:(kv.map (·.1)).Nodup
 ks:∀x∈L,x.1∈kv.map (·.1)∧x.2.1∈kv.map (·.1)
 sm:∀t,dsm kv t=sg L t
 ln:kv.length≤2*L.length
theorem nN{kv:KVs}{k x:Int}(h:(kv.map (·.1)).Nodup):((kvA kv k x).map (·.1)).Nodup:=by
 rw[j9]
 split
 · exact h
 · rename_i hk
   exact List.nodup_append.mpr ⟨h,by simp,fun a ha b hb=>by
    rw[List.mem_singleton.mp hb]
    rintro rfl
    exact hk ha⟩
theorem vB{kv:KVs}{k x:Int}:k∈(kvA kv k x).map (·.1)∧∀j∈kv.map (·.1),j∈(kvA kv k x).map (·.1):=by
 rw[j9]
 split
 · rename_i hk
   exact⟨hk,fun _ h=>h⟩
 · exact⟨by simp,fun j h=>List.mem_append.mpr (.inl h)⟩
theorem mU{kv:KVs}{k x:Int}:(kvA kv k x).length≤kv.length+1:=by
 have:=congrArg List.length (j9 (k:=k) (x:=x) (kv:=kv))
 split at this<;>simp at this<;>omega
theorem KvOk.add{kv:KVs}{L:List I3}(h:KvOk kv L)(x:I3):KvOk (kvA (kvA kv x.1 x.2.2) x.2.1 (-x.2.2)) (L++[x]) where
 nd:=nN (nN h.nd)
 ks y hy:=by
  have a:=vB (kv:=kv) (k:=x.1) (x:=x.2.2)
  have b:=vB (kv:=kvA kv x.1 x.2.2) (k:=x.2.1) (x:= -x.2.2)
  rcases List.mem_append.mp hy with hy|hy
  · have:=h.ks y hy
    exact⟨b.2 _ (a.2 _ this.1),b.2 _ (a.2 _ this.2)⟩
  · rw[List.mem_singleton.mp hy]
    exact⟨b.2 _ a.1,b.1⟩
 sm t:=by
  have e:sg (L++[x]) t=sg L t+(((if x.1≤t then x.2.2 else 0)-if x.2.1≤t then x.2.2 else 0)+0):=by unfold sg;rw[List.map_append,List.sum_append];rfl
  rw[qz,qz,h.sm,e]
  split<;>split<;>omega
 ln:=by
  have a:=mU (kv:=kv) (k:=x.1) (x:=x.2.2)
  have b:=mU (kv:=kvA kv x.1 x.2.2) (k:=x.2.1) (x:= -x.2.2)
  have:=h.ln
  simp
  omega
theorem x5:∀(M:List I3) {kv:KVs} {L:List I3},KvOk kv L→KvOk (kvF kv M) (L++M)
 |[],kv,L,h=>by rw[List.append_nil];exact h
 |x::M,kv,L,h=>by
  have:=x5 M (h.add x)
  rw[List.append_assoc] at this
  exact this
theorem zH{kv:KVs}:aa rT [kvD kv]=some (.lst ((sI (kv.map (·.1))).map D.int)):=by
 rw[ap]
 show Option.map _ (nu _)=_
 have:∀kv:KVs,nu (kv.map fun p=>(Sum.inl p.1:Key))=some (kv.map (·.1)):=by
  intro kv
  induction kv with
  |nil=>rfl
  |cons p r ih=>
   show Option.map _ (nu _)=_
   rw[ih]
   rfl
 rw[this]
 rfl
theorem DR{ns:List Int}(h:ns.Nodup):(sI ns).Pairwise (· < ·):=by
 have a:=BS ns
 have b:(sI ns).Nodup:=(pW ns).nodup_iff.mpr h
 exact(List.pairwise_and_iff.mpr ⟨a,b⟩).imp fun {x y} z=>by omega
theorem sD{fk fv:VF}{env:PD.Env}{kv:KVs}{k x:Int}(nd:(kv.map (·.1)).Nodup)(hl:kv.length<1000000)(h0:env[1]? =some (some (kvD kv)))(hk:fk env=some (.int k))(hv:fv env=some (.int (kvG kv k+x))):oM 1 fk fv env=some (.nx (env.set 1 (some (kvD (kvA kv k x))))):=by
 unfold oM
 rw[hv,aB,hk,aB]
 show (if true=true then _ else _)=_
 rw[ite_tt,h0]
 show Option.bind (uU _ _ _) _=_
 rw[zG nd hl]
 rfl
theorem x6{l m:List Int}(p:l.Perm m):l.sum=m.sum:=by
 induction p with
 |nil=>rfl
 |cons x _ ih=>rw[List.sum_cons,List.sum_cons,ih]
 |swap x y l=>rw[List.sum_cons,List.sum_cons,List.sum_cons,List.sum_cons];omega
 |trans _ _ h1 h2=>exact h1.trans h2
theorem x8:∀{kv:KVs},(kv.map (·.1)).Nodup→∀p∈kv,kvG kv p.1=p.2
 |[],_,_,h=>by cases h
 |q::r,nd,p,h=>by
  have nd:=List.nodup_cons.mp nd
  rcases List.mem_cons.mp h with rfl|h
  · rw[kvG,if_pos rfl]
  · have:q.1≠p.1:=fun e=>nd.1 (List.mem_map.mpr ⟨p,h,e.symm⟩)
    rw[kvG,if_neg this]
    exact x8 nd.2 p h
theorem zI{kv:KVs}{ms ps r:List Int}{b:Int}(nd:(kv.map (·.1)).Nodup)(pm:ms.Perm (kv.map (·.1)))(hs:ms.Pairwise (· < ·))(e:ms=ps++b::r):dsm kv b=(ps.map (kvG kv)).sum+kvG kv b:=by
 have e1:dsm kv b=((kv.map (·.1)).map fun k=>if k≤b then kvG kv k else 0).sum:=by
  unfold dsm
  rw[List.map_map]
  congr 1
  exact List.map_congr_left fun p hp=>by show (if p.1≤b then p.2 else 0)=if p.1≤b then kvG kv p.1 else 0;rw[x8 nd p hp]
 rw[e1,←x6 (pm.map _),e,List.map_append,List.sum_append,List.map_cons,List.sum_cons,if_pos (Int.le_refl b)]
 rw[e] at hs
 obtain⟨_,s2,s3⟩:=List.pairwise_append.mp hs
 have f1:ps.map (fun k=>if k≤b then kvG kv k else 0)=ps.map (kvG kv):=List.map_congr_left fun k hk=>if_pos (Int.le_of_lt (s3 k hk b List.mem_cons_self))
 have f2:(r.map fun k=>if k≤b then kvG kv k else 0).sum=0:=by
  have:∀l:List Int,(∀k∈l,b<k)→(l.map fun k=>if k≤b then kvG kv k else 0).sum=0:=by
   intro l
   induction l with
   |nil=>intro _;rfl
   |cons k l ih=>
    intro h
    have:=h k List.mem_cons_self
    rw[List.map_cons,List.sum_cons,if_neg (by omega),ih fun j hj=>h j (List.mem_cons_of_mem _ hj)]
    rfl
  exact this r (List.pairwise_cons.mp s2).1
 rw[f1,f2]
 omega
theorem vC{f:Int→Int}:∀{ms:List Int},(stp f ms).length≤ms.length
 |[]=>Nat.le_refl _
 |[_]=>Nat.zero_le _
 |b::e::r=>Nat.succ_le_succ (vC (ms:=e::r))
theorem x9{x:I3}:aa ixD (t3 x) (.int 0)=some (.int x.1):=by rw[t3,aZ];exact ix0
theorem ya{x:I3}:aa ixD (t3 x) (.int 1)=some (.int x.2.1):=by rw[t3,aZ];exact bS (n:=1) rfl
theorem zJ{x:I3}:aa ixD (t3 x) (.int 2)=some (.int x.2.2):=by rw[t3,aZ];exact bS (n:=2) rfl
theorem Ch{kv:KVs}{k:Int}(h:k∈kv.map (·.1)):aa y3 (kvD kv) (.int k)=some (.int (kvG kv k)):=by
 rw[ap]
 show Option.join (some (n6 _ _ _))=_
 rw[x3 h]
 rfl
theorem AD{L:List I3}(hl:L.length<1000)(lt:∀x∈L,x.1<x.2.1):∃S,StOk L S∧S.length≤2*L.length∧iz [.lst (L.map t3)]=some (.lst (S.map t3)):=by
 have one:∀(ts:List I3) (kv:KVs) (o:Option D),(kv.map (·.1)).Nodup→kv.length+2*ts.length<1000000→∃o',bE (nmG 2) (lB6) (ts.map t3) [some (.lst (L.map t3)),some (kvD kv),o,none,none,none,none,none]=some (.nx [some (.lst (L.map t3)),some (kvD (kvF kv ts)),o',none,none,none,none,none]):=by
  intro ts
  induction ts with
  |nil=>intro kv o _ _;exact⟨o,rfl⟩
  |cons x ts ih=>
   intro kv o nd hlen
   rw[List.length_cons] at hlen
   have l1:=mU (kv:=kv) (k:=x.1) (x:=x.2.2)
   have l2:=mU (kv:=kvA kv x.1 x.2.2) (k:=x.2.1) (x:= -x.2.2)
   obtain⟨o',h⟩:=ih (kvA (kvA kv x.1 x.2.2) x.2.1 (-x.2.2)) (some (t3 x)) (nN (nN nd)) (by omega)
   refine⟨o', ?_⟩
   have hb:(lB6) [some (.lst (L.map t3)),some (kvD kv),some (t3 x),none,none,none,none,none]=some (.nx [some (.lst (L.map t3)),some (kvD (kvA (kvA kv x.1 x.2.2) x.2.1 (-x.2.2))),some (t3 x),none,none,none,none,none]):=by
    refine(hV (sD (k:=x.1) (x:=x.2.2) nd (by omega) rfl ?_ ?_)).trans (sD (kv:=kvA kv x.1 x.2.2) (k:=x.2.1) (x:= -x.2.2) (nN nd) (by omega) rfl ?_ ?_)
    · skip
      k_search(x9)
    · skip
      k_search(xk,x9,zJ,xZ)
    · skip
      k_search(ya)
    · skip
      k_search(xk,ya,zJ,xZ)
      rfl
   rw[List.map_cons,bE]
   simp only[nmG,List.set_cons_zero,List.set_cons_succ,aB,hb]
   exact h
 obtain⟨o2,h1⟩:=one L [] none (by simp) (by simp;omega)
 have ok:KvOk (kvF [] L) L:=by
  have:=x5 L (kv:=[]) (L:=[]) ⟨by simp,(fun _ h=>by cases h),fun _=>rfl,Nat.zero_le _⟩
  exact this
 generalize kvF [] L=kv at h1 ok
 have pm:=pW (kv.map (·.1))
 have hs:=DR ok.nd
 have hsort:=zH (kv:=kv)
 generalize sI (kv.map (·.1))=ms at pm hs hsort
 have lm:ms.length≤2*L.length:=by rw[pm.length_eq,List.length_map];exact ok.ln
 have two:∀(rs ps:List Int) (acc:List I3) (o6 o7:Option D),ms=ps++rs→acc.length+rs.length<1000000→∃hi q6 q7,bE (gU [6,7]) (lB8) (lX (rs.map D.int) ((rs.drop 1).map D.int)) [some (.lst (L.map t3)),some (kvD kv),o2,some (.lst (ms.map D.int)),some (.lst (acc.map t3)),some (.int (ps.map (kvG kv)).sum),o6,o7]=some (.nx [some (.lst (L.map t3)),some (kvD kv),o2,some (.lst (ms.map D.int)),some (.lst ((acc++stp (dsm kv) rs).map t3)),some (.int hi),q6,q7]):=by
  intro rs
  induction rs with
  |nil=>intro ps acc o6 o7 _ _;exact⟨_,o6,o7,by rw[show stp (dsm kv) []=[] from rfl,List.append_nil];rfl⟩
  |cons b rs ih=>
   intro ps acc o6 o7 e hlen
   cases rs with
   |nil=>exact⟨_,o6,o7,by rw[show stp (dsm kv) [b]=[] from rfl,List.append_nil];rfl⟩
   |cons c rs=>
    rw[List.length_cons] at hlen
    have ed:=zI ok.nd pm hs e
    obtain⟨hi,q6,q7,h⟩:=ih (ps++[b]) (acc++[(b,c,dsm kv b)]) (some (.int b)) (some (.int c)) (by rw[e,List.append_assoc];rfl) (by rw[List.length_append,List.length_singleton];omega)
    refine⟨hi,q6,q7, ?_⟩
    rw[List.append_assoc] at h
    have es:((ps++[b]).map (kvG kv)).sum=dsm kv b:=by
     rw[ed,List.map_append,List.sum_append]
     show _+(kvG kv b+0)=_
     omega
    rw[es] at h
    have hbk:b∈kv.map (·.1):=pm.mem_iff.mp (by rw[e];simp)
    have hx:=Ch hbk
    have hb:(lB8) [some (.lst (L.map t3)),some (kvD kv),o2,some (.lst (ms.map D.int)),some (.lst (acc.map t3)),some (.int (ps.map (kvG kv)).sum),some (.int b),some (.int c)]=some (.nx [some (.lst (L.map t3)),some (kvD kv),o2,some (.lst (ms.map D.int)),some (.lst ((acc++[(b,c,dsm kv b)]).map t3)),some (.int (dsm kv b)),some (.int b),some (.int c)]):=by
     have q:acc.length<1000000:=by omega
     rw[List.map_append,List.map_cons,List.map_nil,ed]
     unfold t3
     ktf_call(hx)
     k_search(q)
    show bE _ _ (D.tup [.int b, .int c]::lX ((c::rs).map D.int) (rs.map D.int)) _=_
    rw[bE]
    simp only[gU,kG,List.set_cons_zero,List.set_cons_succ,aB,hb]
    exact h
 obtain⟨hi,q6,q7,h2⟩:=two ms [] [] none none rfl (by simp;omega)
 rw[List.nil_append] at h2
 have e2:lX (ms.map D.int) ((ms.drop 1).map D.int)=lX (ms.map D.int) ((ms.drop 1).map D.int):=rfl
 have hc:=sC (f:=D.int) (xs:=ms) (k:=1)
 refine⟨stp (dsm kv) ms,DP hs (fun x hx=>⟨pm.mem_iff.mpr (ok.ks x hx).1,pm.mem_iff.mpr (ok.ks x hx).2⟩) (fun m _=>by rw[ok.sm,AA lt]),Nat.le_trans vC lm, ?_⟩
 rw[iz,ap]
 refine bR ?_
 show gF [some (.lst (L.map t3)),none,none,none,none,none,none,none]=_
 unfold gF
 have hk0:some (D.dk [] [])=some (kvD []):=rfl
 ktf_call(aB)
 rw[hk0]
 ktf_call(aW,h1)
 ktf_call(hsort)
 ktf_call(aB)
 ktf_call(aB)
 have hz0:some (D.int 0)=some (.int (([]:List Int).map (kvG kv)).sum):=rfl
 have hl0:some (D.lst [])=some (.lst (([]:List I3).map t3)):=rfl
 rw[hz0,hl0]
 have hc':aa nc (.lst (ms.map D.int)) (some 1) none=some (.lst ((ms.drop 1).map D.int)):=hc
 ktf_call(hc',h2)
 k_search(aB)
theorem DS{S T:List I3}{B:Int}(hS:S.length≤500)(hT:T.length≤500):fj [.lst (S.map t3), .lst (T.map t3), .int B]=some (.lst ((crw B S T).map prD)):=by
 have inner:∀(x:I3) (ts:List I3) (acc:List (Int×Int)) (o5:Option D),acc.length+ts.length<1000000→∃q5,bE (nmG 5) ((ifS (bD (oD (aa gtD) (oD (aa ba) (oD (aa ixD) (vD 4) (cD (.int 2))) (oD (aa ixD) (vD 5) (cD (.int 2)))) (vD 2))) (ft 3 (mk Fk (cG (ah (oD (aa dg) (oD (aa ixD) (vD 4) (cD (.int 0))) (oD (aa ixD) (vD 5) (cD (.int 1)))) (ah (oD (aa dg) (oD (aa ixD) (vD 4) (cD (.int 1))) (oD (aa ixD) (vD 5) (cD (.int 0)))) au))))) nxS)) (ts.map t3) [some (.lst (S.map t3)),some (.lst (T.map t3)),some (.int B),some (.lst (acc.map prD)),some (t3 x),o5]=some (.nx [some (.lst (S.map t3)),some (.lst (T.map t3)),some (.int B),some (.lst ((acc++(ts.filter fun y=>decide (B<x.2.2+y.2.2)).map fun y=>(x.1-y.2.1,x.2.1-y.1)).map prD)),some (t3 x),q5]):=by
  intro x ts
  induction ts with
  |nil=>intro acc o5 _;exact⟨o5,by simp[bE]⟩
  |cons y ts ih=>
   intro acc o5 hlen
   rw[List.length_cons] at hlen
   by_cases c:B<x.2.2+y.2.2
   · obtain⟨q5,h⟩:=ih (acc++[(x.1-y.2.1,x.2.1-y.1)]) (some (t3 y)) (by rw[List.length_append,List.length_singleton];omega)
     refine⟨q5, ?_⟩
     rw[List.append_assoc] at h
     have hb:((ifS (bD (oD (aa gtD) (oD (aa ba) (oD (aa ixD) (vD 4) (cD (.int 2))) (oD (aa ixD) (vD 5) (cD (.int 2)))) (vD 2))) (ft 3 (mk Fk (cG (ah (oD (aa dg) (oD (aa ixD) (vD 4) (cD (.int 0))) (oD (aa ixD) (vD 5) (cD (.int 1)))) (ah (oD (aa dg) (oD (aa ixD) (vD 4) (cD (.int 1))) (oD (aa ixD) (vD 5) (cD (.int 0)))) au))))) nxS)) [some (.lst (S.map t3)),some (.lst (T.map t3)),some (.int B),some (.lst (acc.map prD)),some (t3 x),some (t3 y)]=some (.nx [some (.lst (S.map t3)),some (.lst (T.map t3)),some (.int B),some (.lst ((acc++[(x.1-y.2.1,x.2.1-y.1)]).map prD)),some (t3 x),some (t3 y)]):=by
      have q:acc.length<1000000:=by omega
      rw[List.map_append,List.map_cons,List.map_nil]
      unfold prD
      k_search(x9,ya,zJ,decide_eq_true c,q)
     rw[List.map_cons,bE,List.filter_cons_of_pos (by simpa using c)]
     simp only[nmG,List.set_cons_zero,List.set_cons_succ,aB,hb]
     exact h
   · obtain⟨q5,h⟩:=ih acc (some (t3 y)) (by omega)
     refine⟨q5, ?_⟩
     have hb:((ifS (bD (oD (aa gtD) (oD (aa ba) (oD (aa ixD) (vD 4) (cD (.int 2))) (oD (aa ixD) (vD 5) (cD (.int 2)))) (vD 2))) (ft 3 (mk Fk (cG (ah (oD (aa dg) (oD (aa ixD) (vD 4) (cD (.int 0))) (oD (aa ixD) (vD 5) (cD (.int 1)))) (ah (oD (aa dg) (oD (aa ixD) (vD 4) (cD (.int 1))) (oD (aa ixD) (vD 5) (cD (.int 0)))) au))))) nxS)) [some (.lst (S.map t3)),some (.lst (T.map t3)),some (.int B),some (.lst (acc.map prD)),some (t3 x),some (t3 y)]=some (.nx [some (.lst (S.map t3)),some (.lst (T.map t3)),some (.int B),some (.lst (acc.map prD)),some (t3 x),some (t3 y)]):=by
      k_search(x9,ya,zJ,decide_eq_false c,Bool.false_eq_true)
     rw[List.map_cons,bE,List.filter_cons_of_neg (by simpa using c)]
     simp only[nmG,List.set_cons_zero,List.set_cons_succ,aB,hb]
     exact h
 have outer:∀(ss:List I3) (acc:List (Int×Int)) (o4 o5:Option D),acc.length+500*ss.length<900000→∃q4 q5,bE (nmG 4) ((dD (mk Fk (itD (vD 1))) (nmG 5) (ifS (bD (oD (aa gtD) (oD (aa ba) (oD (aa ixD) (vD 4) (cD (.int 2))) (oD (aa ixD) (vD 5) (cD (.int 2)))) (vD 2))) (ft 3 (mk Fk (cG (ah (oD (aa dg) (oD (aa ixD) (vD 4) (cD (.int 0))) (oD (aa ixD) (vD 5) (cD (.int 1)))) (ah (oD (aa dg) (oD (aa ixD) (vD 4) (cD (.int 1))) (oD (aa ixD) (vD 5) (cD (.int 0)))) au))))) nxS))) (ss.map t3) [some (.lst (S.map t3)),some (.lst (T.map t3)),some (.int B),some (.lst (acc.map prD)),o4,o5]=some (.nx [some (.lst (S.map t3)),some (.lst (T.map t3)),some (.int B),some (.lst ((acc++crw B ss T).map prD)),q4,q5]):=by
  intro ss
  induction ss with
  |nil=>intro acc o4 o5 _;exact⟨o4,o5,by rw[crw,List.flatMap_nil,List.append_nil];rfl⟩
  |cons x ss ih=>
   intro acc o4 o5 hlen
   rw[List.length_cons] at hlen
   obtain⟨p5,hi⟩:=inner x T acc o5 (by omega)
   have lf:((T.filter fun y=>decide (B<x.2.2+y.2.2)).map fun y=>(x.1-y.2.1,x.2.1-y.1)).length≤500:=by
    rw[List.length_map]
    exact Nat.le_trans (List.length_filter_le _ _) hT
   obtain⟨q4,q5,h⟩:=ih (acc++(T.filter fun y=>decide (B<x.2.2+y.2.2)).map fun y=>(x.1-y.2.1,x.2.1-y.1)) (some (t3 x)) p5 (by rw[List.length_append];omega)
   refine⟨q4,q5, ?_⟩
   have ec:crw B (x::ss) T=((T.filter fun y=>decide (B<x.2.2+y.2.2)).map fun y=>(x.1-y.2.1,x.2.1-y.1))++crw B ss T:=List.flatMap_cons
   rw[ec,←List.append_assoc]
   have hb:((dD (mk Fk (itD (vD 1))) (nmG 5) (ifS (bD (oD (aa gtD) (oD (aa ba) (oD (aa ixD) (vD 4) (cD (.int 2))) (oD (aa ixD) (vD 5) (cD (.int 2)))) (vD 2))) (ft 3 (mk Fk (cG (ah (oD (aa dg) (oD (aa ixD) (vD 4) (cD (.int 0))) (oD (aa ixD) (vD 5) (cD (.int 1)))) (ah (oD (aa dg) (oD (aa ixD) (vD 4) (cD (.int 1))) (oD (aa ixD) (vD 5) (cD (.int 0)))) au))))) nxS))) [some (.lst (S.map t3)),some (.lst (T.map t3)),some (.int B),some (.lst (acc.map prD)),some (t3 x),o5]=some (.nx [some (.lst (S.map t3)),some (.lst (T.map t3)),some (.int B),some (.lst ((acc++(T.filter fun y=>decide (B<x.2.2+y.2.2)).map fun y=>(x.1-y.2.1,x.2.1-y.1)).map prD)),some (t3 x),p5]):=by
    k_search(aW,hi)
   rw[List.map_cons,bE]
   simp only[nmG,List.set_cons_zero,List.set_cons_succ,aB,hb]
   exact h
 obtain⟨q4,q5,h⟩:=outer S [] none none (by simp;omega)
 rw[List.nil_append,List.map_nil] at h
 rw[fj,ap]
 refine bR ?_
 show cN [some (.lst (S.map t3)),some (.lst (T.map t3)),some (.int B),none,none,none]=_
 unfold cN
 ktf_call(aB)
 ktf_call(aW,h)
 k_search(aB)
def ka(U:Int)(p:Int×Int):Int×Int:=(p.1*U,p.2*U)
theorem Ci{P:List (Int×Int)}{W:List I3}{U:Int}(hP:P.length≤500)(hW:W.length≤500)(u0:0<U)(u1:U≤27720):hJ [.lst (P.map prD), .lst (W.map t3), .int U]=some (.lst ((shs (P.map (ka U)) W).map prD)):=by
 have outer:∀(ps:List (Int×Int)) (acc:List (Int×Int)) (o4:Option D),acc.length+500*ps.length<900000→∃q4,bE (nmG 4) ((tN 3 (mk Fq (bN (itD (vD 1)) iO (cG (ah (oD (aa dg) (oD (aa dC) (oD (aa ixD) (vD 1) (cD (.int 0))) (vD 2)) (oD (aa ixD) (vD 0) (cD (.int 1)))) (ah (oD (aa dg) (oD (aa dC) (oD (aa ixD) (vD 1) (cD (.int 1))) (vD 2)) (oD (aa ixD) (vD 0) (cD (.int 0)))) au))) [4,2])))) (ps.map prD) [some (.lst (P.map prD)),some (.lst (W.map t3)),some (.int U),some (.lst (acc.map prD)),o4]=some (.nx [some (.lst (P.map prD)),some (.lst (W.map t3)),some (.int U),some (.lst ((acc++shs (ps.map (ka U)) W).map prD)),q4]):=by
  intro ps
  induction ps with
  |nil=>intro acc o4 _;exact⟨o4,by rw[List.map_nil,List.map_nil,shs,List.flatMap_nil,List.append_nil];rfl⟩
  |cons p ps ih=>
   intro acc o4 hlen
   rw[List.length_cons] at hlen
   obtain⟨q4,h⟩:=ih (acc++W.map fun y=>(p.1*U-y.2.1,p.2*U-y.1)) (some (prD p)) (by rw[List.length_append,List.length_map];omega)
   refine⟨q4, ?_⟩
   have ec:shs ((p::ps).map (ka U)) W=(W.map fun y=>(p.1*U-y.2.1,p.2*U-y.1))++shs (ps.map (ka U)) W:=List.flatMap_cons
   rw[ec,←List.append_assoc]
   have p0:aa ixD (prD p) (.int 0)=some (.int p.1):=by rw[prD,aZ];exact ix0
   have p1:aa ixD (prD p) (.int 1)=some (.int p.2):=by rw[prD,aZ];exact bS (n:=1) rfl
   have hcp:bN (itD (vD 1)) iO (cG (ah (oD (aa dg) (oD (aa dC) (oD (aa ixD) (vD 1) (cD (.int 0))) (vD 2)) (oD (aa ixD) (vD 0) (cD (.int 1)))) (ah (oD (aa dg) (oD (aa dC) (oD (aa ixD) (vD 1) (cD (.int 1))) (vD 2)) (oD (aa ixD) (vD 0) (cD (.int 0)))) au))) [4,2] [some (.lst (P.map prD)),some (.lst (W.map t3)),some (.int U),none,some (prD p)]=some (.lst ((W.map fun y=>(p.1*U-y.2.1,p.2*U-y.1)).map prD)):=by
    unfold bN
    simp only[itD,gJ,jM,aB,aW]
    rw[if_pos (by rw[List.length_map];omega)]
    show Option.map _ (gN _ _ [some (prD p),some (.int U)] _)=_
    rw[j5 (f:=fun y=>prD (p.1*U-y.2.1,p.2*U-y.1)),List.map_map]
    · rfl
    · intro y _
      refine⟨rfl, ?_⟩
      show _=some (D.tup [.int (p.1*U-y.2.1), .int (p.2*U-y.1)])
      k_search(p0,p1,x9,ya)
   have hb:((tN 3 (mk Fq (bN (itD (vD 1)) iO (cG (ah (oD (aa dg) (oD (aa dC) (oD (aa ixD) (vD 1) (cD (.int 0))) (vD 2)) (oD (aa ixD) (vD 0) (cD (.int 1)))) (ah (oD (aa dg) (oD (aa dC) (oD (aa ixD) (vD 1) (cD (.int 1))) (vD 2)) (oD (aa ixD) (vD 0) (cD (.int 0)))) au))) [4,2])))) [some (.lst (P.map prD)),some (.lst (W.map t3)),some (.int U),some (.lst (acc.map prD)),some (prD p)]=some (.nx [some (.lst (P.map prD)),some (.lst (W.map t3)),some (.int U),some (.lst ((acc++W.map fun y=>(p.1*U-y.2.1,p.2*U-y.1)).map prD)),some (prD p)]):=by
    have q:(acc.map prD).length+((W.map fun y=>(p.1*U-y.2.1,p.2*U-y.1)).map prD).length<1000000:=by rw[List.length_map,List.length_map,List.length_map];omega
    rw[List.map_append]
    unfold tN mk
    simp only[km,mS,kn]
    rw[hcp,aB]
    dsimp only
    simp only[Ar,As,aB]
    rw[if_pos q]
    rfl
   rw[List.map_cons,bE]
   simp only[nmG,List.set_cons_zero,List.set_cons_succ,aB,hb]
   exact h
 obtain⟨q4,h⟩:=outer P [] none (by simp;omega)
 rw[List.nil_append,List.map_nil] at h
 rw[hJ,ap]
 refine bR ?_
 show eV [some (.lst (P.map prD)),some (.lst (W.map t3)),some (.int U),none,none]=_
 unfold eV
 ktf_call(aB)
 ktf_call(aW,h)
 k_search(aB)
theorem zK{ps:List (Int×Int)}:aa rT [.lst (ps.map prD)]=some (.lst ((sP ps).map prD)):=by
 rw[ap]
 show nv (ps.map prD)=_
 have pr:∀qs:List (Int×Int),t6 (qs.map prD)=some qs:=by
  intro qs
  induction qs with
  |nil=>rfl
  |cons q r ih=>
   show Option.map _ (t6 (r.map prD))=_
   rw[ih]
   rfl
 unfold nv
 cases ps with
 |nil=>
  show some (D.lst ((sI []).map D.int))=_
  rw[show sP []=[] from(pX []).eq_nil,show sI []=[] from(pW []).eq_nil]
  rfl
 |cons p r=>
  show Option.map _ (t6 ((p::r).map prD))=_
  rw[pr]
  rfl
theorem DT{ps:List (Int×Int)}{m:Int}:fq [.lst (ps.map prD), .int m]=some (.int (lo1 (sP ps) m)):=by
 have loop:∀(qs:List (Int×Int)) (m:Int) (o:Option D),∃q,bE (nmG 2) ((ifS (lW (bD (oD (aa ltD) (oD (aa ixD) (vD 2) (cD (.int 0))) (vD 1))) (bD (oD (aa ltD) (vD 1) (oD (aa ixD) (vD 2) (cD (.int 1)))))) (aH 1 (mk [false,false,false] (oD (aa ixD) (vD 2) (cD (.int 1))))) nxS)) (qs.map prD) [some (.lst (ps.map prD)),some (.int m),o]=some (.nx [some (.lst (ps.map prD)),some (.int (lo1 qs m)),q]):=by
  intro qs
  induction qs with
  |nil=>intro m o;exact⟨o,rfl⟩
  |cons p qs ih=>
   intro m o
   obtain⟨q,h⟩:=ih (if p.1<m∧m<p.2 then p.2 else m) (some (prD p))
   refine⟨q, ?_⟩
   have p0:aa ixD (prD p) (.int 0)=some (.int p.1):=by rw[prD,aZ];exact ix0
   have p1:aa ixD (prD p) (.int 1)=some (.int p.2):=by rw[prD,aZ];exact bS (n:=1) rfl
   have hb:((ifS (lW (bD (oD (aa ltD) (oD (aa ixD) (vD 2) (cD (.int 0))) (vD 1))) (bD (oD (aa ltD) (vD 1) (oD (aa ixD) (vD 2) (cD (.int 1)))))) (aH 1 (mk [false,false,false] (oD (aa ixD) (vD 2) (cD (.int 1))))) nxS)) [some (.lst (ps.map prD)),some (.int m),some (prD p)]=some (.nx [some (.lst (ps.map prD)),some (.int (if p.1<m∧m<p.2 then p.2 else m)),some (prD p)]):=by
    by_cases c1:p.1<m
    · by_cases c2:m<p.2
      · rw[if_pos ⟨c1,c2⟩]
        k_search(p0,p1,decide_eq_true c1,decide_eq_true c2)
      · rw[if_neg fun z=>c2 z.2]
        k_search(p0,p1,decide_eq_true c1,decide_eq_false c2,Bool.false_eq_true)
    · rw[if_neg fun z=>c1 z.1]
      k_search(p0,p1,decide_eq_false c1,Bool.false_eq_true)
   rw[List.map_cons,bE]
   simp only[nmG,List.set_cons_zero,List.set_cons_succ,aB,hb]
   exact h
 obtain⟨q,h⟩:=loop (sP ps) m none
 rw[fq,ap]
 refine cA ?_
 show cO [some (.lst (ps.map prD)),some (.int m),none]=_
 unfold cO
 have hs:=zK (ps:=ps)
 ktf_call(hs,aW,h)
 k_search(aB)
def Cr.z(c:Cr):Cr:={c with e:=(0,1)}
theorem Cr.WF.z{c:Cr}{bs:List Br}(wf:c.WF bs):c.z.WF bs:=⟨wf.f,⟨show (0:Int)<1 by decide,show (1:Int)≤27720 by decide⟩,wf.v1,wf.v2,wf.w1,wf.w4⟩
theorem zL:Dv (0,1):=⟨by decide,⟨27720,by decide⟩⟩
def tr(s:Sy):I3:=(prt s.on,prt s.off,s.high)
theorem vE{B s e:Int}{O W:List I3}{P:List (Int×Int)}(hs:0<s):Frb B (scl s O) (scl s W) (P.map fun p=>(s*p.1,s*p.2)) (s*e)↔Frb B O W P e:=by
 unfold Frb
 constructor
 · rintro(⟨t,h⟩|⟨p,hp,y,hy,h1,h2⟩)
   · refine .inl ⟨t/s, ?_⟩
     rw[mx hs,mx hs] at h
     have:(t-s*e)/s=t/s-e:=by
      rw[show t-s*e=t+s*(-e) by grind,Int.add_mul_ediv_left _ _ (by omega)]
      omega
     rw[this] at h
     exact h
   · obtain⟨p,hp',rfl⟩:=List.mem_map.mp hp
     obtain⟨y,hy',rfl⟩:=List.mem_map.mp hy
     dsimp only at h1 h2
     refine .inr ⟨p,hp',y,hy', ?_, ?_⟩
     · exact Int.lt_of_mul_lt_mul_left (a:=s) (by rw[Int.mul_add];exact h1) (Int.le_of_lt hs)
     · exact Int.lt_of_mul_lt_mul_left (a:=s) (by rw[Int.mul_add];exact h2) (Int.le_of_lt hs)
 · rintro(⟨t,h⟩|⟨p,hp,y,hy,h1,h2⟩)
   · refine .inl ⟨s*t, ?_⟩
     rw[mx hs,mx hs,←Int.mul_sub,Int.mul_ediv_cancel_left _ (by omega),Int.mul_ediv_cancel_left _ (by omega)]
     exact h
   · refine .inr ⟨_,List.mem_map.mpr ⟨p,hp,rfl⟩,_,List.mem_map.mpr ⟨y,hy,rfl⟩, ?_, ?_⟩
     · have:=Int.mul_lt_mul_of_pos_left h1 hs
       rw[Int.mul_add] at this
       exact this
     · have:=Int.mul_lt_mul_of_pos_left h2 hs
       rw[Int.mul_add] at this
       exact this
structure EntOk(B:Int)(O W:List I3)(P:List (Int×Int))(m r:Int):Prop where
 ge:m≤r
 no:¬Frb B O W P r
 sooner:∃s:Int,0<s∧s ∣ 27720∧s ∣ m∧s ∣ r∧(∀x∈O,s ∣ x.1∧s ∣ x.2.1)∧(∀x∈W,s ∣ x.1∧s ∣ x.2.1)∧∀e,s ∣ e→m≤e→e<r→Frb B O W P e
theorem DU{bs:List Br}{sh:List (Str×Int×Int)}{crs:List Cr}{c:Cr}(hl:bs.length≤6)(hw:∀x∈crs,x.WF bs)(wf:c.WF bs)(he:∀x∈crs,Dv x.e)(hce:Dv c.e)(hc:crs.length≤32)(hsh:sh.length<400)
 (lt:∀s∈cw crs c.b.name++c.z.sys,prt s.on<prt s.off)(hO:∀t,hz ((cw crs c.b.name).map tr) t≤c.b.bears)(hW:∀t,hz (c.z.sys.map tr) t≤c.b.bears):
 ∃q,Dv q∧(∃x y,q=Fr.low x y∧0<y)∧jD [(eG bs sh).o, .lst (crs.map Cr.t), .str c.b.name, .int c.v, .lst (c.ws.map Wh.t),frD c.e]=some (frD q)∧EntOk c.b.bears ((cw crs c.b.name).map tr) (c.z.sys.map tr) ((d0 sh c.b.name).map (ka 27720)) (prt c.e) (prt q):=by
 have h1:gB [(eG bs sh).o, .lst ([c.z].map Cr.t), .str c.b.name]=some (.lst (c.z.sys.map Sy.t)):=by
  have:=vq (sh:=sh) (n:=c.b.name) (crs:=[c.z]) hl (fun x hx=>by rw[List.mem_singleton.mp hx];exact wf.z) (show 1<1000 by decide)
  rw[show cw [c.z] c.b.name=c.z.sys from by
   rw[jG,if_pos (show c.z.b.name=c.b.name from rfl)]
   exact List.append_nil _] at this
  exact this
 have h2:=vq (sh:=sh) (n:=c.b.name) hl hw (by omega)
 have d1:∀s∈c.z.sys,s.Dd:=xP wf.z zL
 have d2:∀s∈cw crs c.b.name,s.Dd:=xQ hw he
 have l1:c.z.sys.length≤4:=by rw[jH];exact wf.w4
 have l2:(cw crs c.b.name).length≤128:=Nat.le_trans (kq hw) (by omega)
 have hbo:=Ay (sh:=sh) (n:=c.b.name) hl wf.f
 have hbe:aa (jL .bears) c.b.o=some (.int c.b.bears):=sj rfl
 have hsf:=Cd (bs:=bs) (sh:=sh) (n:=c.b.name) (by omega)
 have lsh:(d0 sh c.b.name).length≤400:=by
  unfold d0
  rw[List.length_map]
  exact Nat.le_trans (List.length_filter_le _ _) (by omega)
 have ltO:∀s∈cw crs c.b.name,prt s.on<prt s.off:=fun s hs=>lt s (List.mem_append.mpr (.inl hs))
 have ltW:∀s∈c.z.sys,prt s.on<prt s.off:=fun s hs=>lt s (List.mem_append.mpr (.inr hs))
 have tz:([c.z].map Cr.t)=[D.tup [.str c.b.name,frD (0,1), .int c.v, .lst (c.ws.map Wh.t)]]:=rfl
 rw[tz] at h1
 generalize hown:c.z.sys=own at*
 generalize hoth:cw crs c.b.name=oth at*
 have ad:=nM (f:=Sy.t) (xs:=own) (ys:=oth) (by omega)
 have la:(own++oth).length<1000000:=by rw[List.length_append];omega
 have cp:∀(k:Int) (g:Sy→Int×Int),(∀s:Sy,aa ixD s.t (.int k)=some (frD (g s)))→bN (itD (oD (aa ba) (vD 6) (vD 7))) iO (oD (aa ixD) (vD 0) (cD (.int k))) [] [some (eG bs sh).o,some (.lst (crs.map Cr.t)),some (.str c.b.name),some (.int c.v),some (.lst (c.ws.map Wh.t)),some (frD c.e),some (.lst (own.map Sy.t)),some (.lst (oth.map Sy.t)),none,none]=some (.lst (((own++oth).map g).map frD)):=fun k g hg=>by
  unfold bN
  simp only[itD,oD,gJ,jM,aB,ad,aW]
  rw[if_pos (by rw[List.length_map];exact la)]
  show Option.map _ (gN _ _ [] _)=_
  rw[j5 (f:=fun s=>frD (g s)),List.map_map]
  · rfl
  · intro s _
    refine⟨rfl, ?_⟩
    simp only[oD,gJ,cD,aB,hg]
 have c0:=cp 0 Sy.on fun s=>by rw[Sy.t,aZ,sy0]
 have c1:=cp 1 Sy.off fun s=>by rw[Sy.t,aZ,sy1]
 have a1:aa ba (.lst [frD c.e]) (.lst (((own++oth).map Sy.on).map frD))=some (.lst (([c.e]++(own++oth).map Sy.on).map frD)):=nM (f:=frD) (xs:=[c.e]) (by rw[List.length_map];simp;simp at la;omega)
 have a2:=nM (f:=frD) (xs:=[c.e]++(own++oth).map Sy.on) (ys:=(own++oth).map Sy.off) (by rw[List.length_append,List.length_map,List.length_map,List.length_append];simp;omega)
 obtain⟨U,u0,u1,u2,hU⟩:=DQ (qs:=([c.e]++(own++oth).map Sy.on)++(own++oth).map Sy.off) (fun q hq=>by
  rcases List.mem_append.mp hq with hq|hq
  · rcases List.mem_append.mp hq with hq|hq
    · rw[List.mem_singleton.mp hq];exact hce
    · obtain⟨s,hs,rfl⟩:=List.mem_map.mp hq
      exact((List.mem_append.mp hs).elim (d1 s) (d2 s)).on
  · obtain⟨s,hs,rfl⟩:=List.mem_map.mp hq
    exact((List.mem_append.mp hs).elim (d1 s) (d2 s)).off)
 have ue:c.e.2 ∣ U:=u2 _ (by simp)
 have uon:∀s∈own++oth,s.on.2 ∣ U:=fun s hs=>u2 _ (List.mem_append.mpr (.inl (List.mem_append.mpr (.inr (List.mem_map.mpr ⟨s,hs,rfl⟩)))))
 have uof:∀s∈own++oth,s.off.2 ∣ U:=fun s hs=>u2 _ (List.mem_append.mpr (.inr (List.mem_map.mpr ⟨s,hs,rfl⟩)))
 have ul:=Int.le_of_dvd (by decide) u1
 have s0:0<27720/U:=Int.ediv_pos_of_pos_of_dvd (by decide) (Int.le_of_lt u0) u1
 have sU:27720/U*U=27720:=Int.ediv_mul_cancel u1
 have w1:=AC d1 u0 u1 (by omega)
 have w2:=AC d2 u0 u1 (by omega)
 have trU:∀s:Sy,s.Dd→s.on.2 ∣ U→s.off.2 ∣ U→tr s=(27720/U*(s3 U s).1,27720/U*(s3 U s).2.1,(s3 U s).2.2):=fun s d a b=>by
  unfold tr s3
  rw[lJ u0 u1 a d.on.pos,lJ u0 u1 b d.off.pos]
 have eO:oth.map tr=scl (27720/U) (oth.map (s3 U)):=by
  unfold scl
  rw[List.map_map]
  exact List.map_congr_left fun s hs=>trU s (d2 s hs) (uon s (List.mem_append.mpr (.inr hs))) (uof s (List.mem_append.mpr (.inr hs)))
 have eW:own.map tr=scl (27720/U) (own.map (s3 U)):=by
  unfold scl
  rw[List.map_map]
  exact List.map_congr_left fun s hs=>trU s (d1 s hs) (uon s (List.mem_append.mpr (.inl hs))) (uof s (List.mem_append.mpr (.inl hs)))
 have eP:(d0 sh c.b.name).map (ka 27720)=((d0 sh c.b.name).map (ka U)).map fun p=>(27720/U*p.1,27720/U*p.2):=by
  rw[List.map_map]
  refine List.map_congr_left fun p _=> ?_
  show (p.1*27720,p.2*27720)=(27720/U*(p.1*U),27720/U*(p.2*U))
  have e1:∀x:Int,27720/U*(x*U)=x*(27720/U*U):=fun x=>by grind
  rw[e1,e1,sU]
 have ec:=lJ u0 u1 ue hce.pos
 rw[eO] at hO
 rw[eW] at hW
 have scS:∀{L:List I3} {t:Int},hz L t=hz (scl (27720/U) L) (27720/U*t):=fun {L t}=>by rw[mx s0,Int.mul_ediv_cancel_left _ (by omega)]
 have hO':∀t,hz (oth.map (s3 U)) t≤c.b.bears:=fun t=>by rw[scS];exact hO _
 have hW':∀t,hz (own.map (s3 U)) t≤c.b.bears:=fun t=>by rw[scS];exact hW _
 have l3:∀{ss:List Sy},(∀s∈ss,s.Dd∧s.on.2 ∣ U∧s.off.2 ∣ U∧prt s.on<prt s.off)→∀x∈ss.map (s3 U),x.1<x.2.1:=fun {ss} h x hx=>by
  obtain⟨s,hs,rfl⟩:=List.mem_map.mp hx
  obtain⟨a,b,d,e⟩:=h s hs
  rw[lJ u0 u1 b a.on.pos,lJ u0 u1 d a.off.pos] at e
  exact Int.lt_of_mul_lt_mul_left e (Int.le_of_lt s0)
 obtain⟨S,sS,lS,fS⟩:=AD (L:=oth.map (s3 U)) (by rw[List.length_map];omega) (l3 fun s hs=>⟨d2 s hs,uon s (List.mem_append.mpr (.inr hs)),uof s (List.mem_append.mpr (.inr hs)),ltO s hs⟩)
 obtain⟨T,sT,lT,fT⟩:=AD (L:=own.map (s3 U)) (by rw[List.length_map];omega) (l3 fun s hs=>⟨d1 s hs,uon s (List.mem_append.mpr (.inl hs)),uof s (List.mem_append.mpr (.inl hs)),ltW s hs⟩)
 rw[List.length_map] at lS lT
 have f1:=DS (S:=S) (T:=T) (B:=c.b.bears) (by omega) (by omega)
 have f2:=Ci (P:=d0 sh c.b.name) (W:=own.map (s3 U)) (U:=U) (by omega) (by rw[List.length_map];omega) u0 ul
 have lc:(crw c.b.bears S T).length≤S.length*T.length:=by
  have:∀S:List I3,(crw c.b.bears S T).length≤S.length*T.length:=by
   intro S
   induction S with
   |nil=>exact Nat.zero_le _
   |cons x S ih=>
    have e:crw c.b.bears (x::S) T=((T.filter fun y=>decide (c.b.bears<x.2.2+y.2.2)).map fun y=>(x.1-y.2.1,x.2.1-y.1))++crw c.b.bears S T:=List.flatMap_cons
    rw[e,List.length_append,List.length_map,List.length_cons,Nat.succ_mul]
    have:=List.length_filter_le (fun y:I3=>decide (c.b.bears<x.2.2+y.2.2)) T
    omega
  exact this S
 have lp:S.length*T.length≤256*8:=Nat.mul_le_mul (by omega) (by omega)
 have ls:(shs ((d0 sh c.b.name).map (ka U)) (own.map (s3 U))).length≤400*4:=by
  have:∀P:List (Int×Int),(shs P (own.map (s3 U))).length≤P.length*4:=by
   intro P
   induction P with
   |nil=>exact Nat.zero_le _
   |cons x P ih=>
    have e:shs (x::P) (own.map (s3 U))=((own.map (s3 U)).map fun y=>(x.1-y.2.1,x.2-y.1))++shs P (own.map (s3 U)):=List.flatMap_cons
    rw[e,List.length_append,List.length_map,List.length_map,List.length_cons]
    omega
  refine Nat.le_trans (this _) ?_
  rw[List.length_map]
  omega
 have a3:=nM (f:=prD) (xs:=crw c.b.bears S T) (ys:=shs ((d0 sh c.b.name).map (ka U)) (own.map (s3 U))) (by omega)
 have f3:=DT (ps:=crw c.b.bears S T++shs ((d0 sh c.b.name).map (ka U)) (own.map (s3 U))) (m:=prU U c.e)
 have f4:=xX hce u0 u1
 obtain⟨g1,g2,g3⟩:=uf (m:=prU U c.e) (xA (crw c.b.bears S T++shs ((d0 sh c.b.name).map (ka U)) (own.map (s3 U))))
 have ps:=pX (crw c.b.bears S T++shs ((d0 sh c.b.name).map (ka U)) (own.map (s3 U)))
 generalize lo1 (sP (crw c.b.bears S T++shs ((d0 sh c.b.name).map (ka U)) (own.map (s3 U)))) (prU U c.e)=r at*
 have f5:=mv (a:=r) (b:=U) u0 (by omega)
 have fi:=fun e=>zF (P:=(d0 sh c.b.name).map (ka U)) (e:=e) sS sT hO' hW'
 obtain⟨q1,q2⟩:=qr (x:=r) (y:=U) (z:=27720/U*r) u0 (by
  have:27720/U*r*U=r*(27720/U*U):=by grind
  rw[this,sU])
 refine⟨Fr.low r U,q1,⟨r,U,rfl,u0⟩, ?_, ?_, ?_,27720/U,s0,Int.ediv_dvd_of_dvd u1, ?_, ?_, ?_, ?_, ?_⟩
 · rw[jD,ap]
   refine cA ?_
   show gI [some (eG bs sh).o,some (.lst (crs.map Cr.t)),some (.str c.b.name),some (.int c.v),some (.lst (c.ws.map Wh.t)),some (frD c.e),none,none,none,none]=_
   unfold gI
   have hwl:lE [.int 0]=some (frD (0,1)):=DN
   ktf_call(hwl,h1)
   ktf_call(h2)
   refine(hV (e1:=[some (eG bs sh).o,some (.lst (crs.map Cr.t)),some (.str c.b.name),some (.int c.v),some (.lst (c.ws.map Wh.t)),some (frD c.e),some (.lst (own.map Sy.t)),some (.lst (oth.map Sy.t)),some (.int U),none]) ?_).trans ?_
   · unfold aH mk
     simp only[km,kn,av,ah,au,oD,fQ,gJ,jM,aB,c0,c1,a1,a2,hU]
     rfl
   ktf_call(w1)
   ktf_call(w2)
   ktf_call(fS,fT,hbo,hbe,f1)
   ktf_call(hsf,f2,a3)
   k_search(f4,f3,f5)
 · rw[q2,ec]
   exact Int.mul_le_mul_of_nonneg_left g1 (Int.le_of_lt s0)
 · rw[q2,eO,eW,eP,vE s0,←fi]
   rintro⟨p,hp,z⟩
   exact g2 p (ps.mem_iff.mpr hp) z
 · rw[ec];exact⟨_,rfl⟩
 · rw[q2];exact⟨_,rfl⟩
 · intro x hx
   rw[eO] at hx
   obtain⟨y,_,rfl⟩:=List.mem_map.mp hx
   exact⟨⟨_,rfl⟩,⟨_,rfl⟩⟩
 · intro x hx
   rw[eW] at hx
   obtain⟨y,_,rfl⟩:=List.mem_map.mp hx
   exact⟨⟨_,rfl⟩,⟨_,rfl⟩⟩
 · rintro e ⟨k,rfl⟩ h1 h2
   rw[q2] at h2
   rw[ec] at h1
   rw[eO,eW,eP,vE s0,←fi]
   obtain⟨p,hp,z⟩:=g3 k (Int.le_of_mul_le_mul_left h1 s0) (Int.lt_of_mul_lt_mul_left h2 (Int.le_of_lt s0))
   exact⟨p,ps.mem_iff.mp hp,z⟩
structure FitW(b:Br)(ws:List Wh):Prop where
 nn:∀w∈ws,0≤w.high
 alone:(ws.map Wh.high).sum≤b.bears∨∀w∈ws,b.length≤w.gap∧w.high≤b.bears
theorem yb{m:Int}:∀{ws:List Wh},(∀w∈ws,w.high≤m)→(ws.map Wh.high).sum≤(ws.length:Int)*m
 |[],_=>by simp
 |w::ws,h=>by
  have ih:=yb (ws:=ws) fun x hx=>h x (List.mem_cons_of_mem _ hx)
  have:=h w List.mem_cons_self
  rw[List.map_cons,List.sum_cons,List.length_cons]
  have e:((ws.length+1:Nat):Int)*m=(ws.length:Int)*m+m:=by grind
  rw[e]
  omega
theorem AE{c:Int}{b:Br}(bw:b.W5):∃ws:List Wh,1≤ws.length∧ws.length≤4∧FitW b ws∧cW [.int c,b.t5]=some (.lst (ws.map Wh.t)):=by
 have b1:=bw.b1
 have b2:=bw.b2
 obtain⟨ws,w1,w4,hw,hwh⟩:=DJ (c:=c) (bears:=b.bears) (by omega) (by omega)
 have h1:=nJ (c:=c) (f:=35401) (by o_shape) (by o_shape)
 have nn:=gc c 35401
 generalize kO c 35401=one at h1 nn
 have x1:aa ixD b.t5 (.int 1)=some (.int b.length):=by rw[Br.t5,aZ,DK]
 have x2:aa ixD b.t5 (.int 2)=some (.int b.bears):=by rw[Br.t5,aZ,DL]
 by_cases cc:60<b.length∨one%2=0
 · refine⟨ws,w1,w4,⟨fun w hw'=>Int.le_trans (hw w hw').1.l0 (hw w hw').1.lh, .inl ?_⟩, ?_⟩
   · refine Int.le_trans (yb fun w hw'=>(hw w hw').2) ?_
     exact Int.mul_ediv_self_le (by omega)
   · rw[cW,ap]
     refine bR ?_
     show cv [some (.int c),some b.t5,none,none]=_
     unfold cv
     ktf_call(x2,hwh)
     ktf_call(h1)
     refine qu ?_
     by_cases c1:60<b.length
     · skip
       k_search(x1,decide_eq_true c1)
     · have c2:one%2=0:=by omega
       k_search(x1,decide_eq_false c1,Bool.false_eq_true,decide_eq_true c2)
 · have c1:¬60<b.length:=fun h=>cc (.inl h)
   have c2:¬one%2=0:=fun h=>cc (.inr h)
   refine⟨ws.map fun _=>⟨b.length+one/2%20,0,b.bears-one/40%9⟩,by rw[List.length_map];exact w1,by rw[List.length_map];exact w4,⟨fun w hw'=> ?_, .inr fun w hw'=> ?_⟩, ?_⟩
   · obtain⟨_,_,rfl⟩:=List.mem_map.mp hw'
     show 0≤b.bears-one/40%9
     omega
   · obtain⟨_,_,rfl⟩:=List.mem_map.mp hw'
     exact⟨by show b.length≤b.length+one/2%20;omega,by show b.bears-one/40%9≤b.bears;omega⟩
   · rw[cW,ap]
     refine bR ?_
     show cv [some (.int c),some b.t5,none,none]=_
     unfold cv
     have go:∀ts:List Wh,bT 3 iO (cG (ah (oD (aa ba) (oD (aa ixD) (vD 3) (cD (.int 1))) (oD (aa cb) (oD (aa cZ) (vD 4) (cD (.int 2))) (cD (.int 20)))) (ah (cD (.int 0)) (ah (oD (aa dg) (oD (aa ixD) (vD 3) (cD (.int 2))) (oD (aa cb) (oD (aa cZ) (vD 4) (cD (.int 40))) (cD (.int 9)))) au)))) [some b.t5,some (.int one)] (ts.map Wh.t)=some ((ts.map fun _=>(⟨b.length+one/2%20,0,b.bears-one/40%9⟩:Wh)).map Wh.t):=by
      intro ts
      induction ts with
      |nil=>rfl
      |cons w ts ih=>
       rw[List.map_cons]
       show bT 3 _ _ _ (.tup [.int w.gap, .int w.low, .int w.high]::ts.map Wh.t)=_
       rw[bT,if_pos (show [D.int w.gap, .int w.low, .int w.high].length=3 from rfl),ih]
       show Option.bind (some true) _=_
       rw[aB,ite_tt]
       show Option.bind (cG _ [some (.int w.gap),some (.int w.low),some (.int w.high),some b.t5,some (.int one)]) _=_
       have e:∀z:D,z=Wh.t ⟨b.length+one/2%20,0,b.bears-one/40%9⟩→(some z).bind (fun d=>(some ((ts.map fun _=>(⟨b.length+one/2%20,0,b.bears-one/40%9⟩:Wh)).map Wh.t)).bind fun r=>some (d::r))=some (((w::ts).map fun _=>(⟨b.length+one/2%20,0,b.bears-one/40%9⟩:Wh)).map Wh.t):=fun z hz=>by rw[hz];rfl
       have ev:cG (ah (oD (aa ba) (oD (aa ixD) (vD 3) (cD (.int 1))) (oD (aa cb) (oD (aa cZ) (vD 4) (cD (.int 2))) (cD (.int 20)))) (ah (cD (.int 0)) (ah (oD (aa dg) (oD (aa ixD) (vD 3) (cD (.int 2))) (oD (aa cb) (oD (aa cZ) (vD 4) (cD (.int 40))) (cD (.int 9)))) au))) [some (.int w.gap),some (.int w.low),some (.int w.high),some b.t5,some (.int one)]=some (Wh.t ⟨b.length+one/2%20,0,b.bears-one/40%9⟩):=by
        unfold Wh.t
        k_search(x1,x2)
       rw[ev]
       first|exact e _ rfl|rfl
     have hc:gX 3 (itD (vD 2)) iO (cG (ah (oD (aa ba) (oD (aa ixD) (vD 3) (cD (.int 1))) (oD (aa cb) (oD (aa cZ) (vD 4) (cD (.int 2))) (cD (.int 20)))) (ah (cD (.int 0)) (ah (oD (aa dg) (oD (aa ixD) (vD 3) (cD (.int 2))) (oD (aa cb) (oD (aa cZ) (vD 4) (cD (.int 40))) (cD (.int 9)))) au)))) [1,3] [some (.int c),some b.t5,some (.lst (ws.map Wh.t)),some (.int one)]=some (.lst ((ws.map fun _=>(⟨b.length+one/2%20,0,b.bears-one/40%9⟩:Wh)).map Wh.t)):=by
      unfold gX
      simp only[itD,gJ,jM,aB,aW]
      rw[if_pos (by rw[List.length_map];omega)]
      show Option.map _ (bT _ _ _ [some b.t5,some (.int one)] _)=_
      rw[go ws]
      rfl
     ktf_call(x2,hwh)
     ktf_call(h1)
     ktf_call(x1,decide_eq_false c1,decide_eq_false c2,Bool.false_eq_true)
     unfold bC
     rw[hc]
     rfl
structure CrK(bs:List Br)(c:Cr):Prop where
 wf:c.WF bs
 dv:Dv c.e
 fit:FitW c.b c.ws
theorem Cj{xs:List D}{k:Nat}(h:Nums k (.lst xs))(hk:k≤64):aa neD (.lst xs) (.lst [])=some (.bl (!xs.isEmpty)):=by
 cases xs with
 |nil=>exact zv h hk
 |cons x r=>
  rw[ap]
  show (eqX (.lst (x::r)) (.lst [])).map _=_
  obtain⟨y,h1,h2,h3⟩:=lH k _ h
  have n0:Nums k (.lst []):=by
   cases k with
   |zero=>cases h
   |succ k=>exact .lst fun _ h=>by cases h
  obtain⟨z,g1,g2,g3⟩:=lH k _ n0
  have s1:SeqAt.shaped y=true:=by
   unfold SeqAt.shaped
   rw[h2,decide_eq_true (by omega)]
   rfl
  have s2:SeqAt.shaped z=true:=by
   unfold SeqAt.shaped
   rw[g2,decide_eq_true (by omega)]
   rfl
  unfold eqX
  rw[h1,g1,aB,aB,if_pos ⟨s1,s2⟩]
  have ez:z= .list []:=by
   have:jm (.lst [])=some (.list []):=rfl
   rw[this] at g1
   cases g1
   rfl
  have ey:∃a as,y= .list (a::as):=by
   have e:jm (.lst (x::r))=(toPys (x::r)).map PyData.list:=rfl
   rw[e] at h1
   obtain⟨ys,e1,rfl⟩:=Option.map_eq_some_iff.mp h1
   have e2:toPys (x::r)=(jm x).bind fun a=>(toPys r).map (a:: ·):=rfl
   rw[e2] at e1
   obtain⟨a,_,e1⟩:=bnd e1
   obtain⟨as,_,rfl⟩:=Option.map_eq_some_iff.mp e1
   exact⟨a,as,rfl⟩
  obtain⟨a,as,rfl⟩:=ey
  subst ez
  rfl
theorem yc{x:Str}:D.flat (.str x)=true:=rfl
theorem ye{x:Int}:D.flat (.int x)=true:=rfl
theorem zM{q:Int×Int}:D.flat (frD q)=true:=rfl
theorem zN{b:Br}:D.flat b.t5=true:=rfl
theorem AG{bs:List Br}(hl:1≤bs.length)(h6:bs.length≤6)(hw:∀b∈bs,b.W5)(nd:NmD bs){cs:List Int}(hcl:cs.length≤100){fs:List Cr}(hf:∀c∈fs,CrK bs c)(hfl:fs.length≤100):∃crs:List Cr,crs.length=cs.length∧(∀c∈crs,CrK bs c)∧eF [.lst (cs.map .int), .lst (bs.map Br.t5), .lst (fs.map Cr.t)]=some (.lst (crs.map Cr.t)):=by
 obtain⟨e',hloop,crs,o4,o5,o6,o7,o8,hlen,hcr,rfl⟩:=gT (g:=nmG 4) (b:=lB1) (ds:=cs.map D.int) (env:=[some (.lst (cs.map .int)),some (.lst (bs.map Br.t5)),some (.lst (fs.map Cr.t)),some (.lst (fs.map Cr.t)),none,none,none,none,none])
  (fun i e=>∃(crs:List Cr) (o4 o5 o6 o7 o8:Option D),crs.length=i∧(∀c∈crs,CrK bs c)∧e=[some (.lst (cs.map .int)),some (.lst (bs.map Br.t5)),some (.lst (fs.map Cr.t)),some (.lst ((fs++crs).map Cr.t)),o4,o5,o6,o7,o8])
  ⟨[],none,none,none,none,none,rfl,(fun b h=>absurd h List.not_mem_nil),by rw[List.append_nil]⟩ (by
    rintro i d e hd ⟨crs,o4,o5,o6,o7,o8,hlen,hcr,rfl⟩
    rw[List.getElem?_map] at hd
    obtain⟨c,hc,rfl⟩:=Option.map_eq_some_iff.mp hd
    have hi:=(List.getElem?_eq_some_iff.mp hc).1
    have h1:=nJ (c:=c) (f:=21569) (by o_shape) (by o_shape)
    have nn:=gc c 21569
    generalize kO c 21569=one at h1 nn
    have j1:0≤one/7%(bs.length:Int):=Int.emod_nonneg _ (Int.ne_of_gt ((Int.ofNat_lt (n:=0)).mpr hl))
    have j2:one/7%(bs.length:Int)<bs.length:=Int.emod_lt_of_pos _ ((Int.ofNat_lt (n:=0)).mpr hl)
    obtain⟨k,hk⟩:∃k:Nat,one/7%(bs.length:Int)=(k:Int):=⟨(one/7%(bs.length:Int)).toNat,by o_shape⟩
    have hkb:k<bs.length:=by rw[hk] at j2;exact Int.ofNat_lt.mp j2
    obtain⟨b,hb⟩:∃b,bs[k]? =some b:=⟨bs[k],List.getElem?_eq_getElem hkb⟩
    have hbm:=List.mem_of_getElem? hb
    have hbx:=qq (f:=Br.t5) hb
    obtain⟨x,hx,dv,rfl,d1,d2⟩:=Du (n:=5) (xs:=[.int 1, .int 1, .int 2, .int 3, .int 7, .int 12]) (i:=one%6) (Pv:=At 1 12) (by o_shape) (by show one%6<6;o_shape) (by
     intro x hx
     simp only[List.mem_cons,List.not_mem_nil,or_false] at hx
     rcases hx with rfl|rfl|rfl|rfl|rfl|rfl<;>exact⟨_,rfl,by o_shape,by o_shape⟩)
    have hfr:=vp (a:=one/30%40) (b:=dv) (by o_shape) (by o_shape)
    have hq:=qp (a:=one/30%40) (b:=dv) (by o_shape)
    obtain⟨ws,w1,w4,wfit,hwh⟩:=AE (c:=c) (hw b hbm)
    have q:fs.length+crs.length<1000000:=by omega
    have b0:aa ixD b.t5 (.int 0)=some (.str b.name):=by rw[Br.t5,aZ,su]
    have hall:∀z∈fs++crs,CrK bs z:=fun z hz=>(List.mem_append.mp hz).elim (hf z) (hcr z)
    have hne:=Cj (xO hw fun z hz=>(hall z hz).wf) (by decide)
    have hnew:CrK bs (Cr.mk b (Fr.low (one/30%40) dv) (1+one/2000%12) ws):=⟨⟨nd b hbm,⟨hq.pos,Int.le_trans hq.le (by o_shape)⟩,by show 1≤1+one/2000%12;o_shape,by show 1+one/2000%12≤12;o_shape,w1,w4⟩,DM ⟨hq.pos,Int.le_trans hq.le d2⟩,wfit⟩
    have mem:∀{z0:Cr},CrK bs z0→∀z∈crs++[z0],CrK bs z:=fun {z0} h0 z h=>by
     rcases List.mem_append.mp h with h|h
     · exact hcr z h
     · cases List.mem_singleton.mp h;exact h0
    have et:(Cr.mk b (Fr.low (one/30%40) dv) (1+one/2000%12) ws).t= .tup [.str b.name,frD (Fr.low (one/30%40) dv), .int (1+one/2000%12), .lst (ws.map Wh.t)]:=rfl
    refine⟨_,rfl, ?_⟩
    by_cases c2:(fs++crs)≠[]∧one/30000%2=0
    · obtain⟨z,hz⟩:∃z,(fs++crs)[0]? =some z:=by
       cases e:fs++crs with
       |nil=>exact absurd e c2.1
       |cons z r=>exact⟨z,rfl⟩
      have kz:=hall z (List.mem_of_getElem? hz)
      have bz:z.b∈bs:=List.mem_of_find?_eq_some kz.wf.f
      obtain⟨vs,v1,v4,vfit,hvh⟩:=AE (c:=c) (hw z.b bz)
      have zx:aa ixD (.lst ((fs++crs).map Cr.t)) (.int 0)=some z.t:=qq (f:=Cr.t) (i:=0) hz
      have z0:aa ixD z.t (.int 0)=some (.str z.b.name):=by rw[Cr.t,aZ,cr0]
      have z1:aa ixD z.t (.int 1)=some (frD z.e):=by rw[Cr.t,aZ,cr1]
      have z2:aa ixD z.t (.int 2)=some (.int z.v):=by rw[Cr.t,aZ,cr2]
      have he:(fs++crs).isEmpty=false:=by
       cases e:fs++crs with
       |nil=>exact absurd e c2.1
       |cons z r=>rfl
      obtain⟨xs,hxs,hx0⟩:=mw (bs:=bs) (n:=z.b.name) h6 kz.wf.f (fc:=bD (oD (aa eqD) (oD (aa ixD) (vD 0) (cD (.int 0))) (oD (aa ixD) (oD (aa ixD) (vD 1) (cD (.int 0))) (cD (.int 0))))) (caps:=[some (.lst ((fs++crs).map Cr.t))]) (fun y=>by
       have y0:aa ixD y.t5 (.int 0)=some (.str y.name):=by rw[Br.t5,aZ,su]
       k_search(y0,zx,z0)
       )
      have hcp:oD (aa ixD) (bN (itD (vD 1)) (bD (oD (aa eqD) (oD (aa ixD) (vD 0) (cD (.int 0))) (oD (aa ixD) (oD (aa ixD) (vD 1) (cD (.int 0))) (cD (.int 0))))) (vD 0) [3]) (cD (.int 0)) [some (.lst (cs.map .int)),some (.lst (bs.map Br.t5)),some (.lst (fs.map Cr.t)),some (.lst ((fs++crs).map Cr.t)),some (.int c),some (.int one),some b.t5,some (frD (Fr.low (one/30%40) dv)),some (.tup [.str b.name,frD (Fr.low (one/30%40) dv), .int (1+one/2000%12), .lst (ws.map Wh.t)])]=some z.b.t5:=by
       show Option.bind (bN _ _ _ _ _) _=_
       unfold bN
       simp only[itD,gJ,jM,aB,aW]
       rw[if_pos (by rw[List.length_map];omega)]
       show Option.bind (Option.map _ (gN _ _ [some (.lst ((fs++crs).map Cr.t))] _)) _=_
       rw[hxs]
       show aa ixD (.lst xs) (.int 0)=_
       rw[jK]
       exact hx0
      have hx':uX cW (ah (vD 4) (ah (vD 6) au)) [some (.lst (cs.map .int)),some (.lst (bs.map Br.t5)),some (.lst (fs.map Cr.t)),some (.lst ((fs++crs).map Cr.t)),some (.int c),some (.int one),some z.b.t5,some (frD (Fr.low (one/30%40) dv)),some (.tup [.str b.name,frD (Fr.low (one/30%40) dv), .int (1+one/2000%12), .lst (ws.map Wh.t)])]=some (.lst (vs.map Wh.t)):=by
       unfold uX
       simp only[ah,au,gJ,jM,aB]
       rw[if_pos (show flats [D.int c,z.b.t5]=true from rfl)]
       exact hvh
      refine⟨[some (.lst (cs.map .int)),some (.lst (bs.map Br.t5)),some (.lst (fs.map Cr.t)),some (.lst ((fs++(crs++[Cr.mk z.b z.e z.v vs])).map Cr.t)),some (.int c),some (.int one),some z.b.t5,some (frD (Fr.low (one/30%40) dv)),some (Cr.mk z.b z.e z.v vs).t], ?_,crs++[Cr.mk z.b z.e z.v vs],_,_,_,_,_,by simp[hlen],mem ⟨⟨kz.wf.f,kz.wf.e,kz.wf.v1,kz.wf.v2,v1,v4⟩,kz.dv,vfit⟩,rfl⟩
      have em:(fs++(crs++[Cr.mk z.b z.e z.v vs])).map Cr.t=(fs++crs).map Cr.t++[(Cr.mk z.b z.e z.v vs).t]:=by rw[←List.append_assoc,List.map_append];rfl
      rw[em]
      have e2:(Cr.mk z.b z.e z.v vs).t= .tup [.str z.b.name,frD z.e, .int z.v, .lst (vs.map Wh.t)]:=rfl
      rw[e2]
      generalize hpq:Fr.low (one/30%40) dv=pq at*
      ktf_call(h1)
      ktf_call(List.length_map,hk,hbx)
      ktf_call(jK,hx,hfr)
      ktf_call(b0,hwh)
      refine(hV (e1:=[some (.lst (cs.map .int)),some (.lst (bs.map Br.t5)),some (.lst (fs.map Cr.t)),some (.lst ((fs++crs).map Cr.t)),some (.int c),some (.int one),some z.b.t5,some (frD pq),some (.tup [.str z.b.name,frD z.e, .int z.v, .lst (vs.map Wh.t)])]) ?_).trans ?_
      · unfold ifS
        have hcond:lW (bD (oD (aa neD) (vD 3) (fQ au))) (bD (oD (aa eqD) (oD (aa cb) (oD (aa cZ) (vD 5) (cD (.int 30000))) (cD (.int 2))) (cD (.int 0)))) [some (.lst (cs.map .int)),some (.lst (bs.map Br.t5)),some (.lst (fs.map Cr.t)),some (.lst ((fs++crs).map Cr.t)),some (.int c),some (.int one),some b.t5,some (frD pq),some (.tup [.str b.name,frD pq, .int (1+one/2000%12), .lst (ws.map Wh.t)])]=some true:=by
         k_search(hne,List.isEmpty_map,he,Bool.not_false,decide_eq_true c2.2)
        rw[hcond,aB,ite_tt]
        refine(hV (e1:=[some (.lst (cs.map .int)),some (.lst (bs.map Br.t5)),some (.lst (fs.map Cr.t)),some (.lst ((fs++crs).map Cr.t)),some (.int c),some (.int one),some z.b.t5,some (frD pq),some (.tup [.str b.name,frD pq, .int (1+one/2000%12), .lst (ws.map Wh.t)])]) ?_).trans ?_
        · unfold yT
          rw[hcp,aB,if_pos zN]
          rfl
        · unfold aH
          k_search(flV,zx,z0,z1,z2,yc,ye,zM,hx')
      · skip
        k_search(q)
    · refine⟨[some (.lst (cs.map .int)),some (.lst (bs.map Br.t5)),some (.lst (fs.map Cr.t)),some (.lst ((fs++(crs++[Cr.mk b (Fr.low (one/30%40) dv) (1+one/2000%12) ws])).map Cr.t)),some (.int c),some (.int one),some b.t5,some (frD (Fr.low (one/30%40) dv)),some (Cr.mk b (Fr.low (one/30%40) dv) (1+one/2000%12) ws).t], ?_,crs++[Cr.mk b (Fr.low (one/30%40) dv) (1+one/2000%12) ws],_,_,_,_,_,by simp[hlen],mem hnew,rfl⟩
      have em:(fs++(crs++[Cr.mk b (Fr.low (one/30%40) dv) (1+one/2000%12) ws])).map Cr.t=(fs++crs).map Cr.t++[(Cr.mk b (Fr.low (one/30%40) dv) (1+one/2000%12) ws).t]:=by rw[←List.append_assoc,List.map_append];rfl
      rw[em,et]
      generalize hpq:Fr.low (one/30%40) dv=pq at*
      ktf_call(h1)
      ktf_call(List.length_map,hk,hbx)
      ktf_call(jK,hx,hfr)
      ktf_call(b0,hwh)
      refine(hV (e1:=[some (.lst (cs.map .int)),some (.lst (bs.map Br.t5)),some (.lst (fs.map Cr.t)),some (.lst ((fs++crs).map Cr.t)),some (.int c),some (.int one),some b.t5,some (frD pq),some (.tup [.str b.name,frD pq, .int (1+one/2000%12), .lst (ws.map Wh.t)])]) ?_).trans ?_
      · unfold ifS
        have hcond:lW (bD (oD (aa neD) (vD 3) (fQ au))) (bD (oD (aa eqD) (oD (aa cb) (oD (aa cZ) (vD 5) (cD (.int 30000))) (cD (.int 2))) (cD (.int 0)))) [some (.lst (cs.map .int)),some (.lst (bs.map Br.t5)),some (.lst (fs.map Cr.t)),some (.lst ((fs++crs).map Cr.t)),some (.int c),some (.int one),some b.t5,some (frD pq),some (.tup [.str b.name,frD pq, .int (1+one/2000%12), .lst (ws.map Wh.t)])]=some false:=by
         by_cases c3:fs++crs=[]
         · have he:(fs++crs).isEmpty=true:=by rw[c3];rfl
           k_search(hne,List.isEmpty_map,he,Bool.not_true,Bool.false_eq_true)
         · have c4:¬one/30000%2=0:=fun h=>c2 ⟨c3,h⟩
           have he:(fs++crs).isEmpty=false:=by
            cases e:fs++crs with
            |nil=>exact absurd e c3
            |cons z r=>rfl
           k_search(hne,List.isEmpty_map,he,Bool.not_false,decide_eq_false c4)
        rw[hcond,aB,ite_ff]
        rfl
      · skip
        k_search(q)
    )
 rw[List.length_map] at hlen
 refine⟨crs,hlen,hcr, ?_⟩
 rw[eF,ap]
 refine cA ?_
 show fM [some (.lst (cs.map .int)),some (.lst (bs.map Br.t5)),some (.lst (fs.map Cr.t)),none,none,none,none,none,none]=_
 unfold fM
 have hcut:=sC (f:=Cr.t) (xs:=fs++crs) (k:=fs.length)
 rw[List.drop_left] at hcut
 ktf_call(xI)
 ktf_call(aW,hloop)
 k_search(List.length_map,hcut)
theorem yf:∀{L:List I3} {t:Int},(∀x∈L,0≤x.2.2)→hz L t≤(L.map fun x=>x.2.2).sum
 |[],_,_=>Int.le_refl _
 |x::L,t,h=>by
  have ih:=yf (L:=L) (t:=t) fun y hy=>h y (List.mem_cons_of_mem _ hy)
  have:=h x List.mem_cons_self
  rw[eX,List.map_cons,List.sum_cons]
  split<;>omega
def wz(r len:Int)(os:List Int)(ws:List Wh):List I3:=List.zipWith (fun o w=>(o*r,o*r+len*r,w.high)) os ws
theorem uh{c:Cr}(he:Dv c.e)(v1:1≤c.v)(v2:c.v≤12):c.sys.map tr=sft (prt c.e) (wz (27720/c.v) c.b.length (j7 c.ws) c.ws):=by
 have:∀(os:List Int) (ws:List Wh),(List.zipWith nL (os.map (tm c.e c.v c.b.length)) ws).map tr=sft (prt c.e) (wz (27720/c.v) c.b.length os ws):=by
  intro os
  induction os with
  |nil=>intro ws;rfl
  |cons o os ih=>
   intro ws
   cases ws with
   |nil=>rfl
   |cons w ws=>
    have htp:=qt (len:=c.b.length) (o:=o) he v1 v2
    show tr (nL (tm c.e c.v c.b.length o) w)::(List.zipWith nL (os.map (tm c.e c.v c.b.length)) ws).map tr=(o*(27720/c.v)+prt c.e,o*(27720/c.v)+c.b.length*(27720/c.v)+prt c.e,w.high)::sft (prt c.e) (wz (27720/c.v) c.b.length os ws)
    rw[ih]
    congr 1
    show (prt (tm c.e c.v c.b.length o).1,prt (tm c.e c.v c.b.length o).2,w.high)=_
    rw[htp.2.2.1,htp.2.2.2]
    refine Prod.ext ?_ (Prod.ext ?_ rfl)
    · show prt c.e+o*(27720/c.v)=_;omega
    · show prt c.e+o*(27720/c.v)+c.b.length*(27720/c.v)=o*(27720/c.v)+c.b.length*(27720/c.v)+prt c.e;omega
 exact this _ _
theorem DV{c:Cr}(v1:1≤c.v)(v2:c.v≤12):c.z.sys.map tr=wz (27720/c.v) c.b.length (j7 c.ws) c.ws:=by
 have:=uh (c:=c.z) zL v1 v2
 rw[this]
 show sft (prt (0,1)) _=_
 unfold sft prt
 simp only[Int.zero_mul,Int.add_zero]
 exact List.map_id' _
theorem qA{c:Cr}(he:Dv c.e)(v1:1≤c.v)(v2:c.v≤12):c.sys.map tr=sft (prt c.e) (c.z.sys.map tr):=by rw[uh he v1 v2,DV v1 v2]
theorem AH{v:Int}(v1:1≤v)(v2:v≤12):0<27720/v:=Int.ediv_pos_of_pos_of_dvd (by decide) (by omega) (Cc v1 v2)
theorem qB{r len:Int}:∀{os:List Int} {ws:List Wh} {x:I3},x∈wz r len os ws→∃o∈os,∃w∈ws,x=(o*r,o*r+len*r,w.high)
 |[],_,_,h=>by cases h
 |_::_,[],_,h=>by cases h
 |o::os,w::ws,x,h=>by
  rcases List.mem_cons.mp h with rfl|h
  · exact⟨o,List.mem_cons_self,w,List.mem_cons_self,rfl⟩
  · obtain⟨a,ha,b,hb,e⟩:=qB (os:=os) (ws:=ws) h
    exact⟨a,List.mem_cons_of_mem _ ha,b,List.mem_cons_of_mem _ hb,e⟩
theorem vF{r len:Int}:∀{os:List Int} {ws:List Wh},os.length=ws.length→(wz r len os ws).map (fun x=>x.2.2)=ws.map Wh.high
 |[],[],_=>rfl
 |_::os,_::ws,h=>by
  show _::(wz r len os ws).map _=_
  rw[vF (Nat.succ.inj h)]
  rfl
 |[],_::_,h=>by cases h
 |_::_,[],h=>by cases h
theorem vG{len:Int}:∀{ws:List Wh} {a o:Int},(∀w∈ws,1≤len∧len≤w.gap)→o∈jF a ws→a+len≤o
 |[],_,_,_,h=>by cases h
 |w::ws,a,o,hw,h=>by
  have:=hw w List.mem_cons_self
  rcases List.mem_cons.mp h with rfl|h
  · omega
  · have:=vG (ws:=ws) (a:=a+w.gap) (fun x hx=>hw x (List.mem_cons_of_mem _ hx)) h
    omega
theorem yg{r len B:Int}(hr:0<r)(hB:0≤B):∀{ws us:List Wh} {o:Int} {w:Wh} {t:Int},(∀w∈ws,1≤len∧len≤w.gap)→(∀w∈us,0≤w.high∧w.high≤B)→0≤w.high∧w.high≤B→hz (wz r len (o::jF o ws) (w::us)) t≤B
 |ws,[],o,w,t,_,_,h0=>by
  have e:wz r len (o::jF o ws) [w]=[(o*r,o*r+len*r,w.high)]:=by
   show _::List.zipWith _ (jF o ws) []=_
   rw[List.zipWith_nil_right]
  rw[e,eX]
  show (if o*r≤t∧t<o*r+len*r then w.high else 0)+(0:Int)≤B
  split<;>omega
 |[],u::us,o,w,t,_,_,h0=>by
  show hz [(o*r,o*r+len*r,w.high)] t≤B
  rw[eX]
  show (if o*r≤t∧t<o*r+len*r then w.high else 0)+(0:Int)≤B
  split<;>omega
 |x::ws,u::us,o,w,t,hw,hu,h0=>by
  have ih:=yg (r:=r) (len:=len) hr hB (ws:=ws) (us:=us) (o:=o+x.gap) (w:=u) (t:=t) (fun y hy=>hw y (List.mem_cons_of_mem _ hy)) (fun y hy=>hu y (List.mem_cons_of_mem _ hy)) (hu u List.mem_cons_self)
  have e:wz r len (o::jF o (x::ws)) (w::u::us)=(o*r,o*r+len*r,w.high)::wz r len ((o+x.gap)::jF (o+x.gap) ws) (u::us):=rfl
  rw[e,eX]
  by_cases c:o*r≤t∧t<o*r+len*r
  · have z:hz (wz r len ((o+x.gap)::jF (o+x.gap) ws) (u::us)) t=0:=by
     cases Classical.em (hz (wz r len ((o+x.gap)::jF (o+x.gap) ws) (u::us)) t=0) with
     |inl h=>exact h
     |inr h=>
      obtain⟨y,hy,q1,q2⟩:=uc h
      obtain⟨p,hp,v,hv,rfl⟩:=qB hy
      have hge:o+len≤p:=vG (ws:=x::ws) hw hp
      have:=Int.mul_le_mul_of_nonneg_right hge (Int.le_of_lt hr)
      rw[Int.add_mul] at this
      dsimp only at q1
      omega
    rw[if_pos c,z]
    show w.high+0≤B
    omega
  · rw[if_neg c]
    omega
theorem Ck{bs:List Br}{c:Cr}(k:CrK bs c)(bw:c.b.W5)(t:Int):hz (c.z.sys.map tr) t≤c.b.bears:=by
 have v1:=k.wf.v1
 have v2:=k.wf.v2
 have hr:=AH v1 v2
 have b1:=bw.b1
 rw[DV v1 v2]
 rcases k.fit.alone with h|h
 · refine Int.le_trans (yf fun x hx=> ?_) ?_
   · obtain⟨_,_,w,hw,rfl⟩:=qB hx
     exact k.fit.nn w hw
   · rw[vF nK]
     exact h
 · have w1:=k.wf.w1
   have nn:=k.fit.nn
   generalize c.ws=ws at*
   cases ws with
   |nil=>simp at w1
   |cons w ws=>
    exact yg hr (by omega) (fun x hx=>⟨bw.l1,(h x (List.mem_cons_of_mem _ hx)).1⟩) (fun x hx=>⟨nn x (List.mem_cons_of_mem _ hx),(h x (List.mem_cons_of_mem _ hx)).2⟩) ⟨nn w List.mem_cons_self,(h w List.mem_cons_self).2⟩
theorem nO{bs:List Br}{c:Cr}(k:CrK bs c)(bw:c.b.W5):∀x∈c.sys.map tr,x.1<x.2.1∧0≤x.2.2:=by
 rw[uh k.dv k.wf.v1 k.wf.v2]
 intro x hx
 obtain⟨y,hy,rfl⟩:=List.mem_map.mp hx
 obtain⟨o,_,w,hw,rfl⟩:=qB hy
 have:=AH k.wf.v1 k.wf.v2
 have l1:=bw.l1
 have:0<c.b.length*(27720/c.v):=Int.mul_pos (by omega) this
 exact⟨by dsimp only;omega,k.fit.nn w hw⟩
theorem Cr.in{bs:List Br}{c:Cr}(wf:c.WF bs):c.b∈bs:=List.mem_of_find?_eq_some wf.f
theorem nP{bs:List Br}{crs:List Cr}{n:Str}(hw:∀b∈bs,b.W5)(h:∀c∈crs,CrK bs c):∀x∈(cw crs n).map tr,x.1<x.2.1∧0≤x.2.2:=by
 intro x hx
 obtain⟨s,hs,rfl⟩:=List.mem_map.mp hx
 obtain⟨c,hc,h2⟩:=List.mem_flatMap.mp hs
 split at h2
 · exact nO (h c hc) (hw _ (Cr.in (h c hc).wf)) _ (List.mem_map.mpr ⟨s,h2,rfl⟩)
 · cases h2
theorem oW{ss:List Sy}:(ss.map sq).map q3=ss.map tr:=by rw[List.map_map];rfl
theorem qC{P:List (Int×Int)}{B e:Int}{ss own:List Q4}{W:List I3}(hB:0≤B)(n1:∀x∈ss.map q3,0≤x.2.2)(n2:∀x∈W,0≤x.2.2)(hW:own.map q3=sft e W):alw P B ss own=true↔¬Frb B (ss.map q3) W (P.map (ka 27720)) e:=by
 unfold alw
 rw[Bool.and_eq_true]
 have e1:(P.all fun p=>own.all fun s=> !ub p s.1 s.2.1)=true↔¬∃p∈P.map (ka 27720),∃y∈W,y.1+e<p.2∧p.1<y.2.1+e:=by
  rw[List.all_eq_true]
  constructor
  · rintro h ⟨p,hp,y,hy,a,b⟩
    obtain⟨q,hq,rfl⟩:=List.mem_map.mp hp
    have:(y.1+e,y.2.1+e,y.2.2)∈own.map q3:=by rw[hW];exact List.mem_map.mpr ⟨y,hy,rfl⟩
    obtain⟨s,hs,es⟩:=List.mem_map.mp this
    have h1:=List.all_eq_true.mp (h q hq) s hs
    unfold ub at h1
    have s1:s.1=y.1+e:=congrArg (fun z=>z.1) es
    have s2:s.2.1=y.2.1+e:=congrArg (fun z=>z.2.1) es
    rw[s1,s2] at h1
    have a:y.1+e<q.2*27720:=a
    have b:q.1*27720<y.2.1+e:=b
    rw[decide_eq_true (by omega),decide_eq_true (by omega)] at h1
    cases h1
  · intro h q hq
    rw[List.all_eq_true]
    intro s hs
    have:q3 s∈sft e W:=by rw[←hW];exact List.mem_map.mpr ⟨s,hs,rfl⟩
    obtain⟨y,hy,es⟩:=List.mem_map.mp this
    have s1:y.1+e=s.1:=congrArg (fun z=>z.1) es
    have s2:y.2.1+e=s.2.1:=congrArg (fun z=>z.2.1) es
    unfold ub
    by_cases c1:s.1<27720*q.2
    · by_cases c2:27720*q.1<s.2.1
      · exact absurd ⟨_,List.mem_map.mpr ⟨q,hq,rfl⟩,y,hy,by show y.1+e<q.2*27720;omega,by show q.1*27720<y.2.1+e;omega⟩ h
      · rw[decide_eq_false c2,Bool.and_false];rfl
    · rw[decide_eq_false c1];rfl
 have hs:∀t,hz ((ss++own).map q3) t=hz (ss.map q3) t+hz W (t-e):=fun t=>by rw[List.map_append,xT,hW,ud]
 have e2:((ss++own).all fun s=>decide (hz ((ss++own).map q3) s.1≤B))=true↔¬∃t,B<hz (ss.map q3) t+hz W (t-e):=by
  rw[List.all_eq_true]
  constructor
  · rintro h ⟨t,ht⟩
    have:=Ce (L:=(ss++own).map q3) hB (fun x hx=>by
     rw[List.map_append,hW] at hx
     rcases List.mem_append.mp hx with hx|hx
     · exact n1 x hx
     · obtain⟨y,hy,rfl⟩:=List.mem_map.mp hx
       exact n2 y hy) (fun x hx=>by
     obtain⟨s,hs,rfl⟩:=List.mem_map.mp hx
     exact of_decide_eq_true (h s hs)) t
    rw[hs] at this
    omega
  · intro h s _
    rw[decide_eq_true_eq,hs]
    exact Int.not_lt.mp fun z=>h ⟨s.1,z⟩
 rw[e1,e2]
 unfold Frb
 constructor
 · rintro⟨a,b⟩ (z|z)
   · exact b z
   · exact a z
 · exact fun z=>⟨fun q=>z (.inr q),fun q=>z (.inl q)⟩
def zO(bs:List Br)(crs:List Cr):Prop:=∀b∈bs,∀t,hz ((cw crs b.name).map tr) t≤b.bears
theorem uo{crs:List Cr}{c:Cr}{n:Str}:cw (crs++[c]) n=cw crs n++if c.b.name=n then c.sys else[]:=by
 unfold cw
 rw[List.flatMap_append]
 congr 1
 exact List.append_nil _
theorem DW{bs:List Br}(h6:bs.length≤6)(hw:∀b∈bs,b.W5)(nd:NmD bs){sh:List (Str×Int×Int)}(hsh:sh.length≤3){cs:List Cr}(hc:∀c∈cs,CrK bs c)(hl:cs.length≤16):∃crs:List Cr,crs.length≤cs.length∧(∀c∈crs,CrK bs c)∧zO bs crs∧g7 [.lst (bs.map Br.t5), .lst (sh.map shT), .lst (cs.map Cr.t)]=some (.lst (crs.map Cr.t)):=by
 have loop:∀(ds:List Cr) (acc:List Cr) (o4 o5:Option D),(∀c∈ds,CrK bs c)→(∀c∈acc,CrK bs c)→zO bs acc→acc.length+ds.length≤16→∃crs q4 q5,crs.length≤acc.length+ds.length∧(∀c∈crs,CrK bs c)∧zO bs crs∧bE (nmG 4) (lB3) (ds.map Cr.t) [some (.lst (bs.map Br.t5)),some (.lst (sh.map shT)),some (.lst (cs.map Cr.t)),some (.lst (acc.map Cr.t)),o4,o5]=some (.nx [some (.lst (bs.map Br.t5)),some (.lst (sh.map shT)),some (.lst (cs.map Cr.t)),some (.lst (crs.map Cr.t)),q4,q5]):=by
  intro ds
  induction ds with
  |nil=>intro acc o4 o5 _ ha hs _;exact⟨acc,o4,o5,Nat.le_refl _,ha,hs,rfl⟩
  |cons c ds ih=>
   intro acc o4 o5 hd ha hs hlen
   rw[List.length_cons] at hlen
   have k:=hd c List.mem_cons_self
   have kb:=Cr.in k.wf
   have bw:=hw _ kb
   have c0:aa ixD c.t (.int 0)=some (.str c.b.name):=by rw[Cr.t,aZ,cr0]
   obtain⟨xs,hxs,hx0⟩:=mw (bs:=bs) (n:=c.b.name) h6 k.wf.f (fc:=bD (oD (aa eqD) (oD (aa ixD) (vD 0) (cD (.int 0))) (oD (aa ixD) (vD 1) (cD (.int 0))))) (caps:=[some c.t]) (fun y=>by
    have y0:aa ixD y.t5 (.int 0)=some (.str y.name):=by rw[Br.t5,aZ,su]
    k_search(y0,c0)
    )
   have hcp:oD (aa ixD) (bN (itD (vD 0)) (bD (oD (aa eqD) (oD (aa ixD) (vD 0) (cD (.int 0))) (oD (aa ixD) (vD 1) (cD (.int 0))))) (vD 0) [4]) (cD (.int 0)) [some (.lst (bs.map Br.t5)),some (.lst (sh.map shT)),some (.lst (cs.map Cr.t)),none,some c.t,o5]=some c.b.t5:=by
    show Option.bind (bN _ _ _ _ _) _=_
    unfold bN
    simp only[itD,gJ,jM,aB,aW]
    rw[if_pos (by rw[List.length_map];omega)]
    show Option.bind (Option.map _ (gN _ _ [some c.t] _)) _=_
    rw[hxs]
    show aa ixD (.lst xs) (.int 0)=_
    rw[jK]
    exact hx0
   have hsp:=sA (b:=c.b) (crs:=acc) nd kb (fun x hx=>(ha x hx).wf) (fun x hx=>(ha x hx).dv) (by omega)
   have how:=ua (b:=c.b) k.wf k.dv rfl
   rw[AB] at hsp how
   have l4:c.sys.length≤4:=by rw[jH];exact k.wf.w4
   have l5:(cw acc c.b.name).length≤64:=Nat.le_trans (kq fun x hx=>(ha x hx).wf) (by omega)
   have hal:=ug (b:=c.b) (sh:=sh) (ss:=(cw acc c.b.name).map sq) (own:=c.sys.map sq) (by omega) (by rw[List.length_append,List.length_map,List.length_map];omega)
   have q:acc.length<1000000:=by omega
   cases ea:alw (d0 sh c.b.name) c.b.bears ((cw acc c.b.name).map sq) (c.sys.map sq) with
   |true=>
    rw[ea] at hal
    have b1:=bw.b1
    have nf:=(qC (W:=c.z.sys.map tr) (e:=prt c.e) (by omega) (fun x hx=>by rw[oW] at hx;exact(nP hw ha x hx).2) (fun x hx=>by
     have:=nO (c:=c.z) ⟨k.wf.z,zL,k.fit⟩ bw x hx
     exact this.2) (by rw[oW];exact qA k.dv k.wf.v1 k.wf.v2)).mp ea
    have hs':zO bs (acc++[c]):=fun b hb t=>by
     rw[uo]
     by_cases e:c.b.name=b.name
     · have eb:c.b=b:=k.wf.same nd hb e
       subst eb
       rw[if_pos rfl,List.map_append,xT,qA k.dv k.wf.v1 k.wf.v2,ud]
       rw[oW] at nf
       exact Int.not_lt.mp fun z=>nf (.inl ⟨t,z⟩)
     · rw[if_neg e,List.append_nil]
       exact hs b hb t
    obtain⟨crs,q4,q5,r1,r2,r3,h⟩:=ih (acc++[c]) (some c.t) (some c.b.t5) (fun x hx=>hd x (List.mem_cons_of_mem _ hx)) (fun x hx=>by
     rcases List.mem_append.mp hx with hx|hx
     · exact ha x hx
     · rw[List.mem_singleton.mp hx];exact k) hs' (by rw[List.length_append,List.length_singleton];omega)
    refine⟨crs,q4,q5,by rw[List.length_append,List.length_singleton] at r1;rw[List.length_cons];omega,r2,r3, ?_⟩
    have hb:(lB3) [some (.lst (bs.map Br.t5)),some (.lst (sh.map shT)),some (.lst (cs.map Cr.t)),some (.lst (acc.map Cr.t)),some c.t,o5]=some (.nx [some (.lst (bs.map Br.t5)),some (.lst (sh.map shT)),some (.lst (cs.map Cr.t)),some (.lst ((acc++[c]).map Cr.t)),some c.t,some c.b.t5]):=by
     rw[List.map_append,List.map_cons,List.map_nil]
     refine(hV (e1:=[some (.lst (bs.map Br.t5)),some (.lst (sh.map shT)),some (.lst (cs.map Cr.t)),some (.lst (acc.map Cr.t)),some c.t,some c.b.t5]) ?_).trans ?_
     · unfold aH mk
       simp only[km,mS,kn]
       rw[hcp]
       rfl
     · skip
       k_search(hsp,how,hal,q)
    rw[List.map_cons,bE]
    simp only[nmG,List.set_cons_zero,List.set_cons_succ,aB,hb]
    exact h
   |false=>
    rw[ea] at hal
    obtain⟨crs,q4,q5,r1,r2,r3,h⟩:=ih acc (some c.t) (some c.b.t5) (fun x hx=>hd x (List.mem_cons_of_mem _ hx)) ha hs (by omega)
    refine⟨crs,q4,q5,by rw[List.length_cons];omega,r2,r3, ?_⟩
    have hb:(lB3) [some (.lst (bs.map Br.t5)),some (.lst (sh.map shT)),some (.lst (cs.map Cr.t)),some (.lst (acc.map Cr.t)),some c.t,o5]=some (.nx [some (.lst (bs.map Br.t5)),some (.lst (sh.map shT)),some (.lst (cs.map Cr.t)),some (.lst (acc.map Cr.t)),some c.t,some c.b.t5]):=by
     refine(hV (e1:=[some (.lst (bs.map Br.t5)),some (.lst (sh.map shT)),some (.lst (cs.map Cr.t)),some (.lst (acc.map Cr.t)),some c.t,some c.b.t5]) ?_).trans ?_
     · unfold aH mk
       simp only[km,mS,kn]
       rw[hcp]
       rfl
     · skip
       k_search(hsp,how,hal,Bool.false_eq_true)
    rw[List.map_cons,bE]
    simp only[nmG,List.set_cons_zero,List.set_cons_succ,aB,hb]
    exact h
 obtain⟨crs,q4,q5,r1,r2,r3,h⟩:=loop cs [] none none hc (fun _ h=>by cases h) (fun b hb t=>by
  have:=(hw b hb).b1
  show (0:Int)≤b.bears
  omega) (by simpa using hl)
 rw[List.map_nil] at h
 refine⟨crs,by simpa using r1,r2,r3, ?_⟩
 rw[g7,ap]
 refine bR ?_
 show eQ [some (.lst (bs.map Br.t5)),some (.lst (sh.map shT)),some (.lst (cs.map Cr.t)),none,none,none]=_
 unfold eQ
 ktf_call(aB)
 ktf_call(aW,h)
 k_search(aB)
def mvQ(by':Int)(q:Q4):Q4:=(q.1+by',q.2.1+by',q.2.2.1,q.2.2.2)
theorem DX{qs:List Q4}{m:Int}(hl:qs.length<1000000):fP [.lst (qs.map qT), .int m]=some (.lst ((qs.map (mvQ m)).map qT)):=by
 rw[fP,ap]
 refine bR ?_
 show fO [some (.lst (qs.map qT)),some (.int m)]=_
 unfold fO
 have go:∀ts:List Q4,bT 4 iO (cG (ah (oD (aa ba) (vD 0) (vD 4)) (ah (oD (aa ba) (vD 1) (vD 4)) (ah (vD 2) (ah (vD 3) au))))) [some (.int m)] (ts.map qT)=some ((ts.map (mvQ m)).map qT):=by
  intro ts
  induction ts with
  |nil=>rfl
  |cons q ts ih=>
   rw[List.map_cons]
   show bT 4 _ _ _ (.tup [.int q.1, .int q.2.1, .int q.2.2.1, .int q.2.2.2]::ts.map qT)=_
   rw[bT,if_pos (show [D.int q.1, .int q.2.1, .int q.2.2.1, .int q.2.2.2].length=4 from rfl),ih]
   show Option.bind (some true) _=_
   rw[aB,ite_tt]
   have ev:cG (ah (oD (aa ba) (vD 0) (vD 4)) (ah (oD (aa ba) (vD 1) (vD 4)) (ah (vD 2) (ah (vD 3) au)))) ([D.int q.1, .int q.2.1, .int q.2.2.1, .int q.2.2.2].map some++[some (.int m)])=some (qT (mvQ m q)):=by
    show cG _ [some (.int q.1),some (.int q.2.1),some (.int q.2.2.1),some (.int q.2.2.2),some (.int m)]=_
    unfold qT mvQ
    k_search(aB)
   rw[ev]
   rfl
 unfold bC gX
 simp only[itD,gJ,aB,aW]
 rw[if_pos (by rw[List.length_map];exact hl)]
 show Option.bind (Option.map _ (bT _ _ _ [some (.int m)] _)) _=_
 rw[go qs]
 rfl
theorem Cn{qs:List Q4}{e m:Int}{W:List I3}(h:qs.map q3=sft e W):(qs.map (mvQ (m-e))).map q3=sft m W:=by
 have:(qs.map (mvQ (m-e))).map q3=sft (m-e) (qs.map q3):=by
  unfold sft
  rw[List.map_map,List.map_map]
  rfl
 rw[this,h]
 unfold sft
 rw[List.map_map]
 refine List.map_congr_left fun x _=>Prod.ext ?_ (Prod.ext ?_ rfl)
 · show x.1+e+(m-e)=x.1+m;omega
 · show x.2.1+e+(m-e)=x.2.1+m;omega
theorem q_0{q:Q4}:aa ixD (qT q) (.int 0)=some (.int q.1):=by rw[qT,aZ];exact ix0
theorem q_1{q:Q4}:aa ixD (qT q) (.int 1)=some (.int q.2.1):=by rw[qT,aZ];exact bS (n:=1) rfl
theorem DY{b:Br}{sh:List (Str×Int×Int)}{ss own:List Q4}{W:List I3}{m r:Int}(hsh:sh.length≤3)(l1:ss.length≤200)(l2:own.length≤8)(l0:1≤own.length)(h0:∃q,own[0]? =some q∧q.1=r)(hB:0≤b.bears)(n1:∀x∈ss.map q3,0≤x.2.2)(n2:∀x∈W,0≤x.2.2)(hW:own.map q3=sft r W)(ok:EntOk b.bears (ss.map q3) W ((d0 sh b.name).map (ka 27720)) m r):
 dZ [b.t5, .lst (sh.map shT), .lst (ss.map qT), .lst (own.map qT), .int m]=some (.bl true):=by
 obtain⟨s,s0,sd,sm,sr,sO,sW,soon⟩:=ok.sooner
 obtain⟨q0,hq0,er⟩:=h0
 have b0:aa ixD b.t5 (.int 0)=some (.str b.name):=by rw[Br.t5,aZ,su]
 have hsf:=oV (sh:=sh) (n:=b.name) (by omega)
 have lsh:(d0 sh b.name).length≤3:=by
  unfold d0
  rw[List.length_map]
  exact Nat.le_trans (List.length_filter_le _ _) hsh
 have ho:=qq (f:=qT) hq0
 have go:∀ts:List (Int×Int),bT 2 iO (oD (aa dC) (cD (.int 27720)) (vD 1)) [] (ts.map prD)=some ((ts.map fun p:Int×Int=>27720*p.2).map D.int):=by
  intro ts
  induction ts with
  |nil=>rfl
  |cons p ts ih=>
   rw[List.map_cons]
   show bT 2 _ _ _ (.tup [.int p.1, .int p.2]::ts.map prD)=_
   rw[bT,if_pos (show [D.int p.1, .int p.2].length=2 from rfl),ih]
   show Option.bind (some true) _=_
   rw[aB,ite_tt]
   have ev:oD (aa dC) (cD (.int 27720)) (vD 1) ([D.int p.1, .int p.2].map some++[])=some (.int (27720*p.2)):=by
    show oD _ _ _ [some (.int p.1),some (.int p.2)]=_
    k_search(aB)
   rw[ev]
   rfl
 have env0:PD.Env:=[some b.t5,some (.lst (sh.map shT)),some (.lst (ss.map qT)),some (.lst (own.map qT)),some (.int m),some (.int r),none,none,none,none,none,none]
 have hends:oD (aa ba) (gX 2 (itD (av cq (ah (vD 1) (ah (oD (aa ixD) (vD 0) (cD (.int 0))) au)))) iO (oD (aa dC) (cD (.int 27720)) (vD 1)) []) (bN (itD (vD 2)) iO (oD (aa ixD) (vD 0) (cD (.int 1))) []) [some b.t5,some (.lst (sh.map shT)),some (.lst (ss.map qT)),some (.lst (own.map qT)),some (.int m),some (.int r),none,none,none,none,none,none]=some (.lst ((((d0 sh b.name).map fun p:Int×Int=>27720*p.2)++ss.map fun q:Q4=>q.2.1).map D.int)):=by
  have h1:gX 2 (itD (av cq (ah (vD 1) (ah (oD (aa ixD) (vD 0) (cD (.int 0))) au)))) iO (oD (aa dC) (cD (.int 27720)) (vD 1)) [] [some b.t5,some (.lst (sh.map shT)),some (.lst (ss.map qT)),some (.lst (own.map qT)),some (.int m),some (.int r),none,none,none,none,none,none]=some (.lst (((d0 sh b.name).map fun p:Int×Int=>27720*p.2).map D.int)):=by
   have hi:itD (av cq (ah (vD 1) (ah (oD (aa ixD) (vD 0) (cD (.int 0))) au))) [some b.t5,some (.lst (sh.map shT)),some (.lst (ss.map qT)),some (.lst (own.map qT)),some (.int m),some (.int r),none,none,none,none,none,none]=some ((d0 sh b.name).map prD):=by
    simp only[itD,av,ah,au,oD,gJ,jM,cD,aB,b0,hsf,aW]
   unfold gX
   rw[hi,aB,if_pos (by rw[List.length_map];omega)]
   show Option.map _ (bT _ _ _ [] _)=_
   rw[go]
   rfl
  have h2:bN (itD (vD 2)) iO (oD (aa ixD) (vD 0) (cD (.int 1))) [] [some b.t5,some (.lst (sh.map shT)),some (.lst (ss.map qT)),some (.lst (own.map qT)),some (.int m),some (.int r),none,none,none,none,none,none]=some (.lst ((ss.map fun q:Q4=>q.2.1).map D.int)):=by
   unfold bN
   simp only[itD,gJ,jM,aB,aW]
   rw[if_pos (by rw[List.length_map];omega)]
   show Option.map _ (gN _ _ [] _)=_
   rw[j5 (f:=fun q=>D.int q.2.1),List.map_map]
   · rfl
   · intro q _
     refine⟨rfl, ?_⟩
     simp only[oD,gJ,cD,aB,q_1]
  have ad:=nM (f:=D.int) (xs:=(d0 sh b.name).map fun p:Int×Int=>27720*p.2) (ys:=ss.map fun q:Q4=>q.2.1) (by rw[List.length_map,List.length_map];omega)
  unfold oD at h1 h2 ⊢
  rw[h1,aB,h2,aB]
  exact ad
 have hes:∀e∈((d0 sh b.name).map fun p:Int×Int=>27720*p.2)++ss.map fun q:Q4=>q.2.1,s ∣ e:=fun e he=>by
  rcases List.mem_append.mp he with he|he
  · obtain⟨p,_,rfl⟩:=List.mem_map.mp he
    exact Int.dvd_trans sd ⟨p.2,rfl⟩
  · obtain⟨q,hq,rfl⟩:=List.mem_map.mp he
    exact(sO (q3 q) (List.mem_map.mpr ⟨q,hq,rfl⟩)).2
 have les:(((d0 sh b.name).map fun p:Int×Int=>27720*p.2)++ss.map fun q:Q4=>q.2.1).length≤203:=by rw[List.length_append,List.length_map,List.length_map];omega
 generalize ((d0 sh b.name).map fun p:Int×Int=>27720*p.2)++ss.map (fun q:Q4=>q.2.1)=es at hends hes les
 have hos:∀q∈own,s ∣ q.1-r:=fun q hq=>by
  have:q3 q∈sft r W:=by rw[←hW];exact List.mem_map.mpr ⟨q,hq,rfl⟩
  obtain⟨y,hy,e⟩:=List.mem_map.mp this
  have e1:y.1+r=q.1:=congrArg (fun z=>z.1) e
  rw[←e1,show y.1+r-r=y.1 by omega]
  exact(sW y hy).1
 have inner:∀(e:Int) (qs:List Q4) (acc:List Int) (o9:Option D),s ∣ e→(∀q∈qs,s ∣ q.1-r)→(∀t∈acc,s ∣ t)→acc.length+qs.length<100000→∃(acc':List Int) (q9:Option D),(∀t∈acc',s ∣ t)∧acc'.length=acc.length+qs.length∧bE (nmG 9) ((ft 7 (mk Fs (oD (aa dg) (vD 8) (oD (aa dg) (oD (aa ixD) (vD 9) (cD (.int 0))) (vD 5)))))) (qs.map qT) [some b.t5,some (.lst (sh.map shT)),some (.lst (ss.map qT)),some (.lst (own.map qT)),some (.int m),some (.int r),some (.lst (es.map D.int)),some (.lst (acc.map D.int)),some (.int e),o9,none,none]=some (.nx [some b.t5,some (.lst (sh.map shT)),some (.lst (ss.map qT)),some (.lst (own.map qT)),some (.int m),some (.int r),some (.lst (es.map D.int)),some (.lst (acc'.map D.int)),some (.int e),q9,none,none]):=by
  intro e qs
  induction qs with
  |nil=>intro acc o9 _ _ ha _;exact⟨acc,o9,ha,rfl,rfl⟩
  |cons q qs ih=>
   intro acc o9 de hq ha hlen
   rw[List.length_cons] at hlen
   obtain⟨acc',q9,r1,r2,h⟩:=ih (acc++[e-(q.1-r)]) (some (qT q)) de (fun x hx=>hq x (List.mem_cons_of_mem _ hx)) (fun t ht=>by
    rcases List.mem_append.mp ht with ht|ht
    · exact ha t ht
    · rw[List.mem_singleton.mp ht];exact Int.dvd_sub de (hq q List.mem_cons_self)) (by rw[List.length_append,List.length_singleton];omega)
   refine⟨acc',q9,r1,by rw[r2,List.length_append,List.length_singleton,List.length_cons];omega, ?_⟩
   have hb:((ft 7 (mk Fs (oD (aa dg) (vD 8) (oD (aa dg) (oD (aa ixD) (vD 9) (cD (.int 0))) (vD 5)))))) [some b.t5,some (.lst (sh.map shT)),some (.lst (ss.map qT)),some (.lst (own.map qT)),some (.int m),some (.int r),some (.lst (es.map D.int)),some (.lst (acc.map D.int)),some (.int e),some (qT q),none,none]=some (.nx [some b.t5,some (.lst (sh.map shT)),some (.lst (ss.map qT)),some (.lst (own.map qT)),some (.int m),some (.int r),some (.lst (es.map D.int)),some (.lst ((acc++[e-(q.1-r)]).map D.int)),some (.int e),some (qT q),none,none]):=by
    have ql:acc.length<1000000:=by omega
    rw[List.map_append,List.map_cons,List.map_nil]
    k_search(q_0,ql)
   rw[List.map_cons,bE]
   simp only[nmG,List.set_cons_zero,List.set_cons_succ,aB,hb]
   exact h
 have outer:∀(ds:List Int) (acc:List Int) (o8 o9:Option D),(∀e∈ds,s ∣ e)→(∀t∈acc,s ∣ t)→acc.length+8*ds.length<90000→∃(acc':List Int) (q8 q9:Option D),(∀t∈acc',s ∣ t)∧acc'.length≤acc.length+8*ds.length∧bE (nmG 8) ((dD (mk Fs (itD (vD 3))) (nmG 9) (ft 7 (mk Fs (oD (aa dg) (vD 8) (oD (aa dg) (oD (aa ixD) (vD 9) (cD (.int 0))) (vD 5))))))) (ds.map D.int) [some b.t5,some (.lst (sh.map shT)),some (.lst (ss.map qT)),some (.lst (own.map qT)),some (.int m),some (.int r),some (.lst (es.map D.int)),some (.lst (acc.map D.int)),o8,o9,none,none]=some (.nx [some b.t5,some (.lst (sh.map shT)),some (.lst (ss.map qT)),some (.lst (own.map qT)),some (.int m),some (.int r),some (.lst (es.map D.int)),some (.lst (acc'.map D.int)),q8,q9,none,none]):=by
  intro ds
  induction ds with
  |nil=>intro acc o8 o9 _ ha _;exact⟨acc,o8,o9,ha,Nat.le_refl _,rfl⟩
  |cons e ds ih=>
   intro acc o8 o9 hd ha hlen
   rw[List.length_cons] at hlen
   obtain⟨a1,p9,r1,r2,h1⟩:=inner e own acc o9 (hd e List.mem_cons_self) hos ha (by omega)
   obtain⟨acc',q8,q9,r3,r4,h⟩:=ih a1 (some (.int e)) p9 (fun x hx=>hd x (List.mem_cons_of_mem _ hx)) r1 (by omega)
   refine⟨acc',q8,q9,r3,by rw[List.length_cons];omega, ?_⟩
   have hb:((dD (mk Fs (itD (vD 3))) (nmG 9) (ft 7 (mk Fs (oD (aa dg) (vD 8) (oD (aa dg) (oD (aa ixD) (vD 9) (cD (.int 0))) (vD 5))))))) [some b.t5,some (.lst (sh.map shT)),some (.lst (ss.map qT)),some (.lst (own.map qT)),some (.int m),some (.int r),some (.lst (es.map D.int)),some (.lst (acc.map D.int)),some (.int e),o9,none,none]=some (.nx [some b.t5,some (.lst (sh.map shT)),some (.lst (ss.map qT)),some (.lst (own.map qT)),some (.int m),some (.int r),some (.lst (es.map D.int)),some (.lst (a1.map D.int)),some (.int e),p9,none,none]):=by
    k_search(aW,h1)
   rw[List.map_cons,bE]
   simp only[nmG,List.set_cons_zero,List.set_cons_succ,aB,hb]
   exact h
 obtain⟨ts,q8,q9,t1,t2,h1⟩:=outer es [m] none none hes (fun t ht=>by rw[List.mem_singleton.mp ht];exact sm) (by simp;omega)
 have last:∀(us:List Int) (o10 o11:Option D),(∀t∈us,s ∣ t)→∃(q10 q11:Option D),bE (nmG 10) ((ifS (bD (chD (aa leD) (aa ltD) (vD 4) (vD 10) (vD 5))) (aD (aH 11 (mk Ff (av fP (ah (vD 3) (ah (oD (aa dg) (vD 10) (vD 5)) au))))) (ifS (bD (av cu (ah (vD 0) (ah (vD 1) (ah (vD 2) (ah (vD 11) au)))))) (bC (cD (.bl false))) nxS)) nxS)) (us.map D.int) [some b.t5,some (.lst (sh.map shT)),some (.lst (ss.map qT)),some (.lst (own.map qT)),some (.int m),some (.int r),some (.lst (es.map D.int)),some (.lst (ts.map D.int)),q8,q9,o10,o11]=some (.nx [some b.t5,some (.lst (sh.map shT)),some (.lst (ss.map qT)),some (.lst (own.map qT)),some (.int m),some (.int r),some (.lst (es.map D.int)),some (.lst (ts.map D.int)),q8,q9,q10,q11]):=by
  intro us
  induction us with
  |nil=>intro o10 o11 _;exact⟨o10,o11,rfl⟩
  |cons u us ih=>
   intro o10 o11 hu
   have step:∃p11,((ifS (bD (chD (aa leD) (aa ltD) (vD 4) (vD 10) (vD 5))) (aD (aH 11 (mk Ff (av fP (ah (vD 3) (ah (oD (aa dg) (vD 10) (vD 5)) au))))) (ifS (bD (av cu (ah (vD 0) (ah (vD 1) (ah (vD 2) (ah (vD 11) au)))))) (bC (cD (.bl false))) nxS)) nxS)) [some b.t5,some (.lst (sh.map shT)),some (.lst (ss.map qT)),some (.lst (own.map qT)),some (.int m),some (.int r),some (.lst (es.map D.int)),some (.lst (ts.map D.int)),q8,q9,some (.int u),o11]=some (.nx [some b.t5,some (.lst (sh.map shT)),some (.lst (ss.map qT)),some (.lst (own.map qT)),some (.int m),some (.int r),some (.lst (es.map D.int)),some (.lst (ts.map D.int)),q8,q9,some (.int u),p11]):=by
    by_cases c1:m≤u
    · by_cases c2:u<r
      · have hmv:=DX (qs:=own) (m:=u-r) (by omega)
        have hal:=ug (b:=b) (sh:=sh) (ss:=ss) (own:=own.map (mvQ (u-r))) (by omega) (by rw[List.length_append,List.length_map];omega)
        have ea:alw (d0 sh b.name) b.bears ss (own.map (mvQ (u-r)))=false:=by
         cases e:alw (d0 sh b.name) b.bears ss (own.map (mvQ (u-r))) with
         |false=>rfl
         |true=>exact absurd (soon u (hu u List.mem_cons_self) c1 c2) ((qC hB n1 n2 (Cn hW)).mp e)
        rw[ea] at hal
        refine⟨some (.lst ((own.map (mvQ (u-r))).map qT)), ?_⟩
        have hc:bD (chD (aa leD) (aa ltD) (vD 4) (vD 10) (vD 5)) [some b.t5,some (.lst (sh.map shT)),some (.lst (ss.map qT)),some (.lst (own.map qT)),some (.int m),some (.int r),some (.lst (es.map D.int)),some (.lst (ts.map D.int)),q8,q9,some (.int u),o11]=some true:=by
         k_search(chD,decide_eq_true c1,decide_eq_true c2)
        unfold ifS
        rw[hc,aB,ite_tt]
        ktf_call(hmv)
        k_search(hal,Bool.false_eq_true)
      · refine⟨o11, ?_⟩
        have hc:bD (chD (aa leD) (aa ltD) (vD 4) (vD 10) (vD 5)) [some b.t5,some (.lst (sh.map shT)),some (.lst (ss.map qT)),some (.lst (own.map qT)),some (.int m),some (.int r),some (.lst (es.map D.int)),some (.lst (ts.map D.int)),q8,q9,some (.int u),o11]=some false:=by
         k_search(chD,decide_eq_true c1,decide_eq_false c2)
        unfold ifS
        rw[hc,aB,ite_ff]
        rfl
    · refine⟨o11, ?_⟩
      have hc:bD (chD (aa leD) (aa ltD) (vD 4) (vD 10) (vD 5)) [some b.t5,some (.lst (sh.map shT)),some (.lst (ss.map qT)),some (.lst (own.map qT)),some (.int m),some (.int r),some (.lst (es.map D.int)),some (.lst (ts.map D.int)),q8,q9,some (.int u),o11]=some false:=by
       k_search(chD,decide_eq_false c1,Bool.false_eq_true)
      unfold ifS
      rw[hc,aB,ite_ff]
      rfl
   obtain⟨p11,hb⟩:=step
   obtain⟨q10,q11,h⟩:=ih (some (.int u)) p11 fun x hx=>hu x (List.mem_cons_of_mem _ hx)
   refine⟨q10,q11, ?_⟩
   rw[List.map_cons,bE]
   simp only[nmG,List.set_cons_zero,List.set_cons_succ,aB,hb]
   exact h
 obtain⟨q10,q11,h2⟩:=last ts none none t1
 rw[dZ,ap]
 refine cA ?_
 show bQ [some b.t5,some (.lst (sh.map shT)),some (.lst (ss.map qT)),some (.lst (own.map qT)),some (.int m),none,none,none,none,none,none,none]=_
 unfold bQ
 have ho':aa ixD (.lst (own.map qT)) (.int 0)=some (qT q0):=ho
 have hq':aa ixD (qT q0) (.int 0)=some (.int r):=by rw[q_0,er]
 ktf_call(ho',hq')
 refine(hV (e1:=[some b.t5,some (.lst (sh.map shT)),some (.lst (ss.map qT)),some (.lst (own.map qT)),some (.int m),some (.int r),some (.lst (es.map D.int)),none,none,none,none,none]) ?_).trans ?_
 · unfold aH mk
   simp only[km,kn]
   rw[hends]
   rfl
 ktf_call(aB)
 have hm1:some (D.lst [.int m])=some (.lst (([m]:List Int).map D.int)):=rfl
 rw[hm1]
 ktf_call(aW,h1)
 ktf_call(aW,h2)
 k_search(aB)
theorem zP{x y:Int}(hy:0<y):Fr.low (Fr.low x y).1 (Fr.low x y).2=Fr.low x y:=by
 obtain⟨k,k0,h1,h2,h3,h4⟩:=Fr.mk_facts (a:=x) (b:=y) (by omega)
 rw[Fr.low_mk hy] at h3 h4
 generalize Fr.low x y=p at*
 rw[mT h3]
 have g:Fr.G p.1 p.2=1:=by unfold Fr.G;rw[h4];rfl
 rw[g,Int.ediv_one,Int.ediv_one]
theorem wc{c:Cr}(he:Dv c.e)(v1:1≤c.v)(v2:c.v≤12)(w1:1≤c.ws.length):∃q,(c.sys.map sq)[0]? =some q∧q.1=prt c.e:=by
 have htp:=qt (len:=c.b.length) (o:=0) he v1 v2
 cases e:c.ws with
 |nil=>rw[e] at w1;simp at w1
 |cons w ws=>
  refine⟨sq (nL (tm c.e c.v c.b.length 0) w), ?_, ?_⟩
  · unfold Cr.sys Cr.tms
    rw[e]
    rfl
  · show prt (tm c.e c.v c.b.length 0).1=_
    rw[htp.2.2.1]
    omega
theorem yh(xs:List Int)(hx:xs.length≤63)(d:D)(hd:d= .lst (xs.map D.int)∨d= .fz (xs.map D.int)):vi [d]=some (.bl true):=by
 rw[vi,ap]
 refine cA ?_
 show vh [some d,none,none,none,none,none,none,none,none,none,none,none,none,none,none,none]=_
 unfold vh
 have c0:=sw hd 0
 have c1:=sw hd 1
 generalize mJ xs 0=c at c0
 generalize mJ xs 1=c' at c1
 have e0:(((0:Nat):Int))=0:=rfl
 have e1:(((1:Nat):Int))=1:=rfl
 rw[e0] at c0
 rw[e1] at c1
 have h1:=nJ (c:=c) (f:=39373) (by o_shape) (by o_shape)
 have nn:=gc c 39373
 generalize kO c 39373=mm at h1 nn
 obtain⟨n,hn⟩:∃n:Nat,1+mm%2=(n:Int):=⟨(1+mm%2).toNat,by o_shape⟩
 obtain⟨bs,bl,bw,nd,hb⟩:=DH (c:=c) (n:=n) (by o_shape)
 have hl6:bs.length≤6:=by o_shape
 have hl1:1≤bs.length:=by o_shape
 obtain⟨sh,shl,hsh⟩:=xS (c:=c) hl1 hl6
 have hr:=DI (sh:=sh) hl6
 have h2:=nJ (c:=c') (f:=48271) (by o_shape) (by o_shape)
 have nn2:=gc c' 48271
 generalize kO c' 48271=m2 at h2 nn2
 obtain⟨ys,yl,hsl⟩:=Cb hd 2 6
 have e2:(((2:Nat):Int))=2:=rfl
 have e6:(((6:Nat):Int))=6:=rfl
 rw[e2,e6] at hsl
 obtain⟨cs,csl,csk,hcs⟩:=AG hl1 hl6 bw nd (cs:=ys) (by omega) (fs:=[]) (fun _ h=>by cases h) (by simp)
 obtain⟨crs,crl,crk,safe,hcr⟩:=DW hl6 bw nd shl csk (by omega)
 have cl:crs.length≤4:=by omega
 have wf:∀x∈crs,x.WF bs:=fun x h=>(crk x h).wf
 have wd:∀x∈crs,Dv x.e:=fun x h=>(crk x h).dv
 obtain⟨e',hloop,p7,p8,p9,p10,p11,p12,p13,p14,p15,rfl⟩:=gT (g:=nmG 7) (b:=lB0) (ds:=(List.range 3).map fun(i:Nat)=>D.int (0+(i:Int))) (env:=[some d,some (.int c),some (.lst (bs.map Br.t5)),some (.lst (sh.map shT)),some (eG bs sh).o,some (.int m2),some (.lst (crs.map Cr.t)),none,none,none,none,none,none,none,none,none])
  (fun _ e=>∃p7 p8 p9 p10 p11 p12 p13 p14 p15,e=[some d,some (.int c),some (.lst (bs.map Br.t5)),some (.lst (sh.map shT)),some (eG bs sh).o,some (.int m2),some (.lst (crs.map Cr.t)),p7,p8,p9,p10,p11,p12,p13,p14,p15]) ⟨_,_,_,_,_,_,_,_,_,rfl⟩ (by
   rintro i y e hy ⟨p7,p8,p9,p10,p11,p12,p13,p14,p15,rfl⟩
   rw[List.getElem?_map] at hy
   obtain⟨k,hk,rfl⟩:=Option.map_eq_some_iff.mp hy
   have ki:(0:Int)+(k:Int)=(k:Int):=Int.zero_add _
   rw[ki]
   obtain⟨cs1,l1,k1,hc1⟩:=AG hl1 hl6 bw nd (cs:=[m2+(k:Int)]) (by simp) crk (by omega)
   obtain⟨cr,rfl⟩:∃cr,cs1=[cr]:=by
    cases cs1 with
    |nil=>simp at l1
    |cons a r=>cases r with
     |nil=>exact⟨a,rfl⟩
     |cons b r=>simp at l1
   have k1:=k1 cr List.mem_cons_self
   have crb:=Cr.in k1.wf
   have brw:=bw _ crb
   have b1:=brw.b1
   have hcx:aa ixD (.lst [cr.t]) (.int 0)=some cr.t:=by rw[jK];exact ix0
   have hc1':eF [.lst [.int (m2+(k:Int))], .lst (bs.map Br.t5), .lst (crs.map Cr.t)]=some (.lst [cr.t]):=hc1
   obtain⟨fs,hfs,hf0⟩:=mw hl6 k1.wf.f (fc:=bD (oD (aa eqD) (oD (aa ixD) (vD 0) (cD (.int 0))) (vD 1))) (caps:=[some (.str cr.b.name)]) (fun b=>by
    unfold Br.t5
    k_search(aZ,su)
    )
   have kz:CrK bs cr.z:=⟨k1.wf.z,zL,k1.fit⟩
   have fz:=nO kz brw
   have fo:=nP (n:=cr.b.name) bw crk
   obtain⟨q,dq,⟨qx,qy,eq,qy0⟩,hen,ok⟩:=DU (sh:=sh) hl6 wf k1.wf wd k1.dv (by omega) (by omega) (fun s hs=>by
    rcases List.mem_append.mp hs with hs|hs
    · exact(fo _ (List.mem_map.mpr ⟨s,hs,rfl⟩)).1
    · exact(fz _ (List.mem_map.mpr ⟨s,hs,rfl⟩)).1) (safe cr.b crb) (Ck k1 brw)
   have hlf:=vp (a:=q.1) (b:=q.2) dq.pos (by have:=dq.le.le;omega)
   rw[show Fr.low q.1 q.2=q from by rw[eq];exact zP qy0] at hlf
   have hs:=zA (zB (p:=q))
   have hp1:=qv dq
   have hp2:=qv k1.dv
   have hmod:27720%q.2=0:=Int.emod_eq_zero_of_dvd dq.dv
   have q0:=dq.pos
   have ge:=ok.ge
   obtain⟨ca,hca⟩:∃ca:Cr,ca=⟨cr.b,q,cr.v,cr.ws⟩:=⟨_,rfl⟩
   have kca:CrK bs ca:=by subst hca;exact⟨⟨k1.wf.f,dq.le,k1.wf.v1,k1.wf.v2,k1.wf.w1,k1.wf.w4⟩,dq,k1.fit⟩
   have cab:ca.b=cr.b:=by subst hca;rfl
   have cae:ca.e=q:=by subst hca;rfl
   have caz:ca.z=cr.z:=by subst hca;rfl
   have cat:ca.t= .tup [.str cr.b.name,frD q, .int cr.v, .lst (cr.ws.map Wh.t)]:=by subst hca;rfl
   have how:=ua (b:=cr.b) kca.wf kca.dv (by rw[cab])
   have hsp:=sA nd crb wf wd (by omega)
   rw[AB] at how hsp
   have ol:ca.sys.length≤4:=by rw[jH];exact kca.wf.w4
   have ol1:1≤ca.sys.length:=by rw[jH];exact kca.wf.w1
   have l5:(cw crs cr.b.name).length≤16:=Nat.le_trans (kq wf) (by omega)
   have hal:=ug (b:=cr.b) (sh:=sh) (ss:=(cw crs cr.b.name).map sq) (own:=ca.sys.map sq) (by omega) (by rw[List.length_append,List.length_map,List.length_map];omega)
   have hW:(ca.sys.map sq).map q3=sft (prt q) (cr.z.sys.map tr):=by
    rw[oW,qA kca.dv kca.wf.v1 kca.wf.v2,cae,caz]
   have n1:∀x∈((cw crs cr.b.name).map sq).map q3,0≤x.2.2:=fun x hx=>by rw[oW] at hx;exact(fo x hx).2
   have n2:∀x∈cr.z.sys.map tr,0≤x.2.2:=fun x hx=>(fz x hx).2
   have ok':=ok
   rw[←oW (ss:=cw crs cr.b.name)] at ok'
   have ea:=(qC (P:=d0 sh cr.b.name) (by omega) n1 n2 hW).mpr ok'.no
   rw[ea] at hal
   obtain⟨f0,hf1,hf2⟩:=wc kca.dv kca.wf.v1 kca.wf.v2 kca.wf.w1
   have hns:=DY (b:=cr.b) (sh:=sh) (ss:=(cw crs cr.b.name).map sq) (own:=ca.sys.map sq) (m:=prt cr.e) (r:=prt q) shl (by rw[List.length_map];omega) (by rw[List.length_map];omega) (by rw[List.length_map];exact ol1) ⟨f0,hf1,by rw[hf2,cae]⟩ (by omega) n1 n2 hW ok'
   generalize (cw crs cr.b.name).map sq=SS at*
   generalize ca.sys.map sq=OW at*
   rw[cat] at how
   refine⟨_,rfl,[some d,some (.int c),some (.lst (bs.map Br.t5)),some (.lst (sh.map shT)),some (eG bs sh).o,some (.int m2),some (.lst (crs.map Cr.t)),some (.int (k:Int)),some (.str cr.b.name),some (frD cr.e),some (.int cr.v),some (.lst (cr.ws.map Wh.t)),some cr.b.t5,some (frD q),some (.lst (OW.map qT)),some (.lst (SS.map qT))], ?_,_,_,_,_,_,_,_,_,_,rfl⟩
   have hfd:bN (itD (vD 2)) (bD (oD (aa eqD) (oD (aa ixD) (vD 0) (cD (.int 0))) (vD 1))) (vD 0) [8] [some d,some (.int c),some (.lst (bs.map Br.t5)),some (.lst (sh.map shT)),some (eG bs sh).o,some (.int m2),some (.lst (crs.map Cr.t)),some (.int (k:Int)),some (.str cr.b.name),some (frD cr.e),some (.int cr.v),some (.lst (cr.ws.map Wh.t)),p12,p13,p14,p15]=some (.lst fs):=by
    unfold bN
    simp only[itD,gJ,jM,aB,aW]
    rw[if_pos (by rw[List.length_map];o_shape)]
    show Option.map _ (gN _ _ [some (.str cr.b.name)] _)=_
    rw[hfs]
    rfl
   have hq1:aa ixD (frD q) (.int 0)=some (.int q.1):=by rw[frD,aZ,qo]
   have hq2:aa ixD (frD q) (.int 1)=some (.int q.2):=by rw[frD,aZ,nH]
   have hqt:aa (isT "tuple") [frD q]=some (.bl true):=by rw[frD,Au,k_tt]
   have hql:aa jQ [frD q]=some (.int 2):=by rw[frD,xG];rfl
   rw[Cr.t] at hcx hc1'
   ktf_call(hc1',hcx)
   ktf_call(hfd,jK,hf0)
   ktf_call(hen)
   generalize hG:F_law_same=G at hs ⊢
   ktf_call(hqt,hql,hq1,hq2,hlf,hs,decide_true,Bool.not_true,Bool.false_eq_true)
   ktf_call(hq2,hmod,decide_true,Bool.not_true,Bool.false_eq_true,hp1,hp2,decide_eq_false (show ¬prt q<prt cr.e from by omega))
   ktf_call(how)
   ktf_call(hsp)
   ktf_call(hal,Bool.not_true,Bool.false_eq_true)
   k_search(hp2,hns,Bool.not_true,Bool.false_eq_true)
   )
 have hrg:aa iG [.int 3]=some ((List.range 3).map fun(i:Nat)=>D.int (0+(i:Int))):=ko (j:=3) (by o_shape)
 have hcs':eF [.lst (ys.map D.int), .lst (bs.map Br.t5), .lst []]=some (.lst (cs.map Cr.t)):=hcs
 ktf_call(c0)
 ktf_call(h1,hn,hb)
 ktf_call(hsh)
 ktf_call(hr)
 ktf_call(c1,h2)
 ktf_call(hsl,hcs',hcr)
 ktf_call(hrg,hloop)
 k_search(aB)
local macro_rules | `(tactic| o_reads) => `(tactic| first | exact Or.inl rfl | exact Or.inr rfl)
def qD(K:W.Frag):Sp:=fun vs H Q _=>∃(a:Addr) (ns:List Int),vs=[.ref a]∧SqL K H a (ns.map V.int)∧ns.length≤63∧∀H',Q (.bl true) H'
section
variable{P:Program}{w:World}{K:W.Frag}{mg:Str→Option Value}{base:Heap}
theorem nQ{f:Addr}{fd:FuncData}(F:Fun K "_law_cell_at" "_law_cell_at" dG f fd)(z_len:mg "len"=none):
 FnOk P w K mg base CX0 1 f fd ["_law_script","_law_k"] (ip K):=by
 refine F.ok nB (fun vs H Q E h=>aP h) (fun cdv A outer s H vs Q E hr h=> ?_)
 have hu:=hr.units
 have h:spP K kNames .no 2 (bp 2 dL) vs H Q E:=by rw[←ap (bp 2 dL)];exact h
 refine⟨_,(al (cY (aY kB (pv 1) (aS pA rfl z_len kW (ag (pv 0) ao)) (bd _)) (ar (aK (aA az (pv 0) (pv 1) (fun _ _=>rfl)))) bh)
  (ar (aK ai))), ?_⟩
 exact cI (K:=K) (ns:=kNames) (fl':=[]) (n:=2) (b:=dL)
  (ax (gd (bW (oS (ak kE (ae 1) (cS (dX jn (af (ae 0) am)))))) (bG (oS (ak aC (ae 0) (ae 1))))
  bL)
  (bG (aj _))) rfl (by decide) h
theorem uq{f:Addr}{fd:FuncData}(F:Fun K "_law_mix" "_law_mix" hZ f fd):
 FnOk P w K mg base CX0 1 f fd ["_law_cell","_law_factor"] (eD K):=by
 refine F.ok nC (fun vs H Q E h=>aP h) (fun cdv A outer s H vs Q E hr h=> ?_)
 have hu:=hr.units
 have h:spP K kNames .no 2 (bp 3 h7) vs H Q E:=by rw[←ap (bp 3 h7)];exact h
 refine⟨_,(al (ay (i:=2) nC.nd rfl (by o_reads) (aw bA (aw aL (aw cC (pv 0) (pv 1)) ai) ai))
  (ar (aK (aw db (aw bA (aw cC (pv 2) (pv 2)) ai) ai)))), ?_⟩
 exact cI (K:=K) (ns:=kNames) (fl':=[]) (n:=3) (b:=h7)
  (ax (aO 2 (oS (ak bB (oS (ak aU (oS (ak dS (ae 0) (ae 1))) (aj _))) (aj _))))
  (bG (oS (ak bX (oS (ak bB (oS (ak dS (ae 2) (ae 2))) (aj _))) (aj _))))) rfl (by decide) h
theorem nR{f:Addr}{fd:FuncData}(F:Fun K "_law_bridges" "_law_bridges" dH f fd)(g_law_mix:Got P w K mg base 1 "_law_mix" ["_law_cell","_law_factor"] (eD K))(z_range:mg "range"=none):
 FnOk P w K mg base CX0 2 f fd ["_law_cell","_law_count"] (iq K):=by
 refine F.ok bx (fun vs H Q E h=>aP h) (fun cdv A outer s H vs Q E hr h=> ?_)
 have hu:=hr.units
 have h:spP K kNames .yes 2 (bH 11 dM) vs H Q E:=by rw[←ap (bH 11 dM)];exact h
 refine⟨_,(al (ay (i:=2) bx.nd rfl (by o_reads) AN)
  (al (ay (i:=3) bx.nd rfl (by o_reads) (aJ g_law_mix hr (by o_reads) rfl (ag (pv 0) (ag ai ao))))
  (al (ay (i:=4) bx.nd rfl (by o_reads) (aw aL ai (aw bA (pv 3) ai)))
  (al (ay (i:=5) bx.nd rfl (by o_reads) (bY ao))
  (al (bK PassesOwn.never rfl (i6 rfl z_range (ag (pv 1) ao)) (aF (i:=6) bx.nd rfl (by o_reads)) (al (ay (i:=7) bx.nd rfl (by o_reads) (aJ g_law_mix hr (by o_reads) rfl (ag (aw aL (pv 0) (aw cC ai (pv 6))) (ag ai ao))))
  (al (ay (i:=8) bx.nd rfl (by o_reads) (aA az (bY (ag (aw aL ai (aw bA (pv 7) ai)) (ag (aw aL ai (aw bA (pv 7) ai)) (ag (aw aL ai (aw bA (pv 7) ai)) ao)))) (aw bA (aw db (pv 7) ai) ai) (fun _ _=>rfl)))
  (al (ay (i:=9) bx.nd rfl (by o_reads) (aw aL ai (aw bA (aJ g_law_mix hr (by o_reads) rfl (ag (aw aL (pv 0) (pv 6)) (ag ai ao))) ai)))
  (al (ay (i:=10) bx.nd rfl (by o_reads) (aw cC (aA az (pv 2) (aw bA (aw aL (aw db (pv 3) ai) (pv 6)) ai) (fun _ _=>rfl)) (pv 4)))
  (ar (dU (iC PySem.F.plainAttrs_list PySem.F.slot_list_append PySem.F.type_list_append bM (pv 5) (ag (cR (ag (pv 10) (ag (pv 8) (ag (pv 9) (ag (aw aL ai (aw bA (aw db (pv 7) ai) ai)) (ag ai ao)))))) ao)))))))))
  (ar (aK (pv 5)))))))), ?_⟩
 exact cE (K:=K) (ns:=kNames) (fl':=[]) (n:=11) (b:=dM)
  (ax (aO 2 (Bw _))
  (ax (aO 3 (bg (af (ae 0) (af (aj _) am))))
  (ax (aO 4 (oS (ak aU (aj _) (oS (ak bB (ae 3) (aj _))))))
  (ax (ik 5 (bZ am) (by decide))
  (ax (da (iS (lj (af (ae 1) am))) (cH 6 rfl)
  (ax (aO 7 (bg (af (oS (ak aU (ae 0) (oS (ak dS (aj _) (ae 6))))) (af (aj _) am))))
  (ax (aO 8 (oS (ak aC (PuF.pe (bZ (af (oS (ak aU (aj _) (oS (ak bB (ae 7) (aj _))))) (af (oS (ak aU (aj _) (oS (ak bB (ae 7) (aj _))))) (af (oS (ak aU (aj _) (oS (ak bB (ae 7) (aj _))))) am))))) (oS (ak bB (oS (ak bX (ae 7) (aj _))) (aj _))))))
  (ax (aO 9 (oS (ak aU (aj _) (oS (ak bB (bg (af (oS (ak aU (ae 0) (ae 6))) (af (aj _) am))) (aj _))))))
  (ax (aO 10 (oS (ak dS (oS (ak aC (ae 2) (oS (ak bB (oS (ak aU (oS (ak bX (ae 3) (aj _))) (ae 6))) (aj _))))) (ae 4))))
  (jJ 5 (df (af (ae 10) (af (ae 8) (af (ae 9) (af (oS (ak aU (aj _) (oS (ak bB (oS (ak bX (ae 7) (aj _))) (aj _))))) (af (aj _) am)))))) rfl))))))
  (gh 5 rfl)))))) rfl (by decide) h
theorem qE{f:Addr}{fd:FuncData}(F:Fun K "_law_shuts" "_law_shuts" fI f fd)(g_law_mix:Got P w K mg base 1 "_law_mix" ["_law_cell","_law_factor"] (eD K))(z_range:mg "range"=none)(z_len:mg "len"=none):
 FnOk P w K mg base CX0 2 f fd ["_law_cell","_law_bridges_here"] (jw K):=by
 refine F.ok eM (fun vs H Q E h=>aP h) (fun cdv A outer s H vs Q E hr h=> ?_)
 have hu:=hr.units
 have h:spP K kNames .yes 2 (bH 7 fJ) vs H Q E:=by rw[←ap (bH 7 fJ)];exact h
 refine⟨_,(al (ay (i:=2) eM.nd rfl (by o_reads) (aJ g_law_mix hr (by o_reads) rfl (ag (pv 0) (ag ai ao))))
  (al (ay (i:=3) eM.nd rfl (by o_reads) (bY ao))
  (al (bK PassesOwn.never rfl (i6 rfl z_range (ag (aw bA (pv 2) ai) ao)) (aF (i:=4) eM.nd rfl (by o_reads)) (al (ay (i:=5) eM.nd rfl (by o_reads) (aJ g_law_mix hr (by o_reads) rfl (ag (aw aL (pv 0) (pv 4)) (ag ai ao))))
  (al (ay (i:=6) eM.nd rfl (by o_reads) (aw bA (pv 5) ai))
  (ar (dU (iC PySem.F.plainAttrs_list PySem.F.slot_list_append PySem.F.type_list_append bM (pv 3) (ag (cR (ag (aA az (aA az (pv 1) (aw bA (aw db (pv 5) ai) (aS pA rfl z_len kW (ag (pv 1) ao))) (fun _ _=>rfl)) ai (fun _ _=>rfl)) (ag (pv 6) (ag (aw aL (aw aL (pv 6) ai) (aw bA (aw db (pv 5) ai) ai)) ao)))) ao)))))))
  (ar (aK (pv 3)))))), ?_⟩
 exact cE (K:=K) (ns:=kNames) (fl':=[]) (n:=7) (b:=fJ)
  (ax (aO 2 (bg (af (ae 0) (af (aj _) am))))
  (ax (ik 3 (bZ am) (by decide))
  (ax (da (iS (lj (af (oS (ak bB (ae 2) (aj _))) am))) (cH 4 rfl)
  (ax (aO 5 (bg (af (oS (ak aU (ae 0) (ae 4))) (af (aj _) am))))
  (ax (aO 6 (oS (ak bB (ae 5) (aj _))))
  (jJ 3 (df (af (oS (ak aC (oS (ak aC (ae 1) (oS (ak bB (oS (ak bX (ae 5) (aj _))) (cS (dX jn (af (ae 1) am))))))) (aj _))) (af (ae 6) (af (oS (ak aU (oS (ak aU (ae 6) (aj _))) (oS (ak bB (oS (ak bX (ae 5) (aj _))) (aj _))))) am)))) rfl))))
  (gh 3 rfl)))) rfl (by decide) h
theorem qF{f:Addr}{fd:FuncData}(F:Fun K "__init__" "Road.__init__" fF f fd)(z_list:mg "list"=none):
 FnOk P w K mg base CX0 1 f fd ["self","pieces","rounds","shuts"] (jx K):=by
 refine F.ok qb (fun vs H Q E h=>pP h) (fun cdv A outer s H vs Q E hr h=> ?_)
 have hu:=hr.units
 refine⟨_,(al (jh (f:="pieces") (pv 0) (kc gY rfl z_list lP (ag (pv 1) ao)) rfl)
  (al (jh (f:="rounds") (pv 0) (kc gY rfl z_list lP (ag (pv 2) ao)) rfl)
  (ar (jh (f:="shuts") (pv 0) (kc gY rfl z_list lP (ag (pv 3) ao)) rfl)))), ?_⟩
 exact pO (K:=K) (ns:=kNames) (c:= .Road) (ma (jr .pieces (PuF.pe (cSF (i9 mO (af (ae 1) am))))) (ma (jr .rounds (PuF.pe (cSF (i9 mO (af (ae 2) am))))) (jr .shuts (PuF.pe (cSF (i9 mO (af (ae 3) am))))))) rfl rfl h
theorem qG{f:Addr}{fd:FuncData}(F:Fun K "__init__" "Open.__init__" fE f fd):
 FnOk P w K mg base CX0 1 f fd ["self","length"] (jy K):=by
 refine F.ok qa (fun vs H Q E h=>pP h) (fun cdv A outer s H vs Q E hr h=> ?_)
 have hu:=hr.units
 refine⟨_,(ar (jh (f:="length") (pv 0) (pv 1) rfl)), ?_⟩
 exact pO (K:=K) (ns:=kNames) (c:= .Open) (jr .length (ae 1)) rfl rfl h
theorem nS{f:Addr}{fd:FuncData}(F:Fun K "__init__" "Bridge.__init__" dF f fd):
 FnOk P w K mg base CX0 1 f fd ["self","name","length","bears","wide","most"] (ir K):=by
 refine F.ok ny (fun vs H Q E h=>pP h) (fun cdv A outer s H vs Q E hr h=> ?_)
 have hu:=hr.units
 refine⟨_,(al (jh (f:="name") (pv 0) (pv 1) rfl)
  (al (jh (f:="length") (pv 0) (pv 2) rfl)
  (al (jh (f:="bears") (pv 0) (pv 3) rfl)
  (al (jh (f:="wide") (pv 0) (pv 4) rfl)
  (ar (jh (f:="most") (pv 0) (pv 5) rfl)))))), ?_⟩
 exact pO (K:=K) (ns:=kNames) (c:= .Bridge) (ma (jr .name (ae 1)) (ma (jr .length (ae 2)) (ma (jr .bears (ae 3)) (ma (jr .wide (ae 4)) (jr .most (ae 5)))))) rfl rfl h
theorem sE{f:Addr}{fd:FuncData}(F:Fun K "_law_road" "_law_road" gq f fd)(m_Road:GotP P w K mg base 1 "Road" ["self","pieces","rounds","shuts"] (jx K))(d_Road:PKd K kNames (clA K "Road") ["Road"] ["pieces","rounds","shuts"])(m_Open:GotP P w K mg base 1 "Open" ["self","length"] (jy K))(d_Open:PKd K kNames (clA K "Open") ["Open"] ["length"])(m_Bridge:GotP P w K mg base 1 "Bridge" ["self","name","length","bears","wide","most"] (ir K))(d_Bridge:PKd K kNames (clA K "Bridge") ["Bridge"] ["name","length","bears","wide","most"])(z_len:mg "len"=none):
 FnOk P w K mg base CX0 3 f fd ["_law_bridges_here","_law_rounds","_law_shuts_here"] (jV K):=by
 refine F.ok dr (fun vs H Q E h=>aP h) (fun cdv A outer s H vs Q E hr h=> ?_)
 have hu:=hr.units
 have h:spP K kNames .no 3 (bp 9 gt) vs H Q E:=by rw[←ap (bp 9 gt)];exact h
 refine⟨_,(al (ay (i:=3) dr.nd rfl (by o_reads) (bY (ag (pD m_Open hr (by decide) rfl (ag (aw aL ai (aS pA rfl z_len kW (ag (pv 0) ao))) ao)) ao)))
  (al (bK PassesOwn.never rfl (aN (aQ (pv 0)) (aN (bb (pv 0)) (be (pv 0)))) (iM rfl (aE (aF (i:=4) dr.nd rfl (by o_reads)) (aE (aF (i:=5) dr.nd rfl (by o_reads)) (aE (aF (i:=6) dr.nd rfl (by o_reads)) (aE (aF (i:=7) dr.nd rfl (by o_reads)) (aE (aF (i:=8) dr.nd rfl (by o_reads)) dW)))))) (ar (ay (i:=3) dr.nd rfl (by o_reads) (aw aL (pv 3) (bY (ag (pD m_Bridge hr (by decide) rfl (ag (pv 4) (ag (pv 5) (ag (pv 6) (ag (pv 7) (ag (pv 8) ao)))))) (ag (pD m_Open hr (by decide) rfl (ag (aw aL ai (aw db (pv 5) ai)) ao)) ao)))))))
  (ar (aK (pD m_Road hr (by decide) rfl (ag (pv 3) (ag (pv 1) (ag (pv 2) ao)))))))), ?_⟩
 exact cI (K:=K) (ns:=kNames) (fl':=[]) (n:=9) (b:=gt)
  (ax (aO 3 (PuF.pe (bZ (af (mP .Open d_Open (af (oS (ak aU (aj _) (cS (dX jn (af (ae 0) am))))) am)) am))))
  (ax (da (bf (ae 0)) (ll (bi (i:=4) rfl (bi (i:=5) rfl (bi (i:=6) rfl (bi (i:=7) rfl (bi (i:=8) rfl jp))))))
  (aO 3 (oS (ak aU (ae 3) (PuF.pe (bZ (af (mP .Bridge d_Bridge (af (ae 4) (af (ae 5) (af (ae 6) (af (ae 7) (af (ae 8) am)))))) (af (mP .Open d_Open (af (oS (ak aU (aj _) (oS (ak bX (ae 5) (aj _))))) am)) am))))))))
  (bG (mP .Road d_Road (af (ae 3) (af (ae 1) (af (ae 2) am))))))) rfl (by decide) h
theorem nT{f:Addr}{fd:FuncData}(F:Fun K "_law_shut_of" "_law_shut_of" cV f fd):
 FnOk P w K mg base CX0 1 f fd ["_law_shuts_here","_law_name"] (fY K):=by
 refine F.ok nE (fun vs H Q E h=>aP h) (fun cdv A outer s H vs Q E hr h=> ?_)
 have hu:=hr.units
 have h:spP K kNames .yes 2 (bH 2 dN) vs H Q E:=by rw[←ap (bH 2 dN)];exact h
 refine⟨_,(ar (aK (jO ["_law_name"] [1] (CompCT.to eN rfl rfl) rfl rfl (fun _ _ _ _ _=>(kY (K:=K) (n:=3) rfl rfl (aE (dc (CompCT.to eN rfl rfl) 0 rfl (by decide)) (aE (dc (CompCT.to eN rfl rfl) 1 rfl (by decide)) (aE (dc (CompCT.to eN rfl rfl) 2 rfl (by decide)) dW))))) (aN (aQ (pv 0)) (aN (bb (pv 0)) (be (pv 0)))) (fun _ _ _ _ _=>(iE (aY (kd (K:=K) rfl (by exact hu)) (pv 0) (pv 3) (bd _)))) (fun _ _ _ _ _=>(cR (ag (pv 1) (ag (pv 2) ao))))))), ?_⟩
 exact cE (K:=K) (ns:=kNames) (fl':=[]) (n:=2) (b:=dN)
  (lY (jS (bf (ae 0)) (bW (oS (ak ja (ae 0) (ae 3)))) (df (af (ae 1) (af (ae 2) am))))) rfl (by decide) h
theorem qH{f:Addr}{fd:FuncData}(F:Fun K "_law_highs" "_law_highs" ee f fd)(z_sum:mg "sum"=none):
 FnOk P w K mg base CX0 1 f fd ["_law_spans_here","_law_moment"] (jA K):=by
 refine F.ok qd (fun vs H Q E h=>aP h) (fun cdv A outer s H vs Q E hr h=> ?_)
 have hu:=hr.units
 have h:spP K kNames .no 2 (bp 2 fK) vs H Q E:=by rw[←ap (bp 2 fK)];exact h
 refine⟨_,(ar (aK (aS (n5 rfl) rfl z_sum C6 (ag (jO ["_law_moment"] [1] (CompCT.to eh rfl rfl) rfl rfl (fun _ _ _ _ _=>(kY (K:=K) (n:=4) rfl rfl (aE (dc (CompCT.to eh rfl rfl) 0 rfl (by decide)) (aE (dc (CompCT.to eh rfl rfl) 1 rfl (by decide)) (aE (dc (CompCT.to eh rfl rfl) 2 rfl (by decide)) (aE (dc (CompCT.to eh rfl rfl) 3 rfl (by decide)) dW)))))) (aN (aQ (pv 0)) (aN (bb (pv 0)) (be (pv 0)))) (fun _ _ _ _ _=>(iE (qR zX kB (pv 0) (pv 4) (pv 1)))) (fun _ _ _ _ _=>(pv 3))) ao)))), ?_⟩
 exact cI (K:=K) (ns:=kNames) (fl':=[]) (n:=2) (b:=fK)
  (bG (cS (dX BE (af (PuF.pe (jS (bf (ae 0)) (bW (rB Af kE (ae 0) (ae 4) (ae 1))) (ae 3))) am)))) rfl (by decide) h
theorem nU{f:Addr}{fd:FuncData}(F:Fun K "_law_allowed" "_law_allowed" dJ f fd)(g_law_shut_of:Got P w K mg base 1 "_law_shut_of" ["_law_shuts_here","_law_name"] (fY K))(g_law_highs:Got P w K mg base 1 "_law_highs" ["_law_spans_here","_law_moment"] (jA K)):
 FnOk P w K mg base CX0 2 f fd ["_law_bridge","_law_shuts_here","_law_spans_here","_law_own"] (eE K):=by
 refine F.ok bI (fun vs H Q E h=>aP h) (fun cdv A outer s H vs Q E hr h=> ?_)
 have hu:=hr.units
 have h:spP K kNames .no 4 (bp 12 dO) vs H Q E:=by rw[←ap (bp 12 dO)];exact h
 refine⟨_,(al (bK PassesOwn.never rfl (aN (aQ (aJ g_law_shut_of hr (by o_reads) rfl (ag (pv 1) (ag (aA az (pv 0) ai (fun _ _=>rfl)) ao)))) (aN (bb (aJ g_law_shut_of hr (by o_reads) rfl (ag (pv 1) (ag (aA az (pv 0) ai (fun _ _=>rfl)) ao)))) (be (aJ g_law_shut_of hr (by o_reads) rfl (ag (pv 1) (ag (aA az (pv 0) ai (fun _ _=>rfl)) ao)))))) (iM rfl (aE (aF (i:=4) bI.nd rfl (by o_reads)) (aE (aF (i:=5) bI.nd rfl (by o_reads)) dW))) (ar (bK PassesOwn.never rfl (aN (aQ (pv 3)) (aN (bb (pv 3)) (be (pv 3)))) (iM rfl (aE (aF (i:=6) bI.nd rfl (by o_reads)) (aE (aF (i:=7) bI.nd rfl (by o_reads)) (aE (aF (i:=8) bI.nd rfl (by o_reads)) (aE (aF (i:=9) bI.nd rfl (by o_reads)) dW))))) (ar (cY (PW.pt (mX (aY kB (pv 6) (aw cC ai (pv 5)) (bd _)) (kR (aY kB (aw cC ai (pv 4)) (pv 7) (bd _))))) (ar (aK fR)) bh)))))
  (al (ay (i:=10) bI.nd rfl (by o_reads) (aw aL (pv 2) (pv 3)))
  (al (bK PassesOwn.never rfl (aN (aQ (pv 10)) (aN (bb (pv 10)) (be (pv 10)))) (aF (i:=11) bI.nd rfl (by o_reads)) (ar (cY (aY wv (aJ g_law_highs hr (by o_reads) rfl (ag (pv 10) (ag (aA az (pv 11) ai (fun _ _=>rfl)) ao))) (aA az (pv 0) ai (fun _ _=>rfl)) (bd _)) (ar (aK fR)) bh)))
  (ar (aK fR))))), ?_⟩
 exact cI (K:=K) (ns:=kNames) (fl':=[]) (n:=12) (b:=dO)
  (ax (da (bf (PuF.pe (ce (af (ae 1) (af (oS (ak aC (ae 0) (aj _))) am))))) (ll (bi (i:=4) rfl (bi (i:=5) rfl jp)))
  (da (bf (ae 3)) (ll (bi (i:=6) rfl (bi (i:=7) rfl (bi (i:=8) rfl (bi (i:=9) rfl jp)))))
  (gd (li (bW (oS (ak kE (ae 6) (oS (ak dS (aj _) (ae 5)))))) (bW (oS (ak kE (oS (ak dS (aj _) (ae 4))) (ae 7))))) (bG (fV _))
  bL)))
  (ax (aO 10 (oS (ak aU (ae 2) (ae 3))))
  (ax (da (bf (ae 10)) (cH 11 rfl)
  (gd (bW (oS (ak wY (bg (af (ae 10) (af (oS (ak aC (ae 11) (aj _))) am))) (oS (ak aC (ae 0) (aj _)))))) (bG (fV _))
  bL))
  (bG (fV _))))) rfl (by decide) h
theorem nV{f:Addr}{fd:FuncData}(F:Fun K "_law_offsets" "_law_offsets" dI f fd):
 FnOk P w K mg base CX0 1 f fd ["_law_wheels_here"] (iu K):=by
 refine F.ok cz (fun vs H Q E h=>aP h) (fun cdv A outer s H vs Q E hr h=> ?_)
 have hu:=hr.units
 have h:spP K kNames .yes 1 (bH 6 dP) vs H Q E:=by rw[←ap (bH 6 dP)];exact h
 refine⟨_,(al (ay (i:=1) cz.nd rfl (by o_reads) ai)
  (al (ay (i:=2) cz.nd rfl (by o_reads) (bY (ag ai ao)))
  (al (bK PassesOwn.never rfl (aN (aQ (i8 slX (pv 0) (ji ai) kU)) (aN (bb (i8 slX (pv 0) (ji ai) kU)) (be (i8 slX (pv 0) (ji ai) kU)))) (iM rfl (aE (aF (i:=3) cz.nd rfl (by o_reads)) (aE (aF (i:=4) cz.nd rfl (by o_reads)) (aE (aF (i:=5) cz.nd rfl (by o_reads)) dW)))) (al (ay (i:=1) cz.nd rfl (by o_reads) (aw aL (pv 1) (pv 3)))
  (ar (dU (iC PySem.F.plainAttrs_list PySem.F.slot_list_append PySem.F.type_list_append bM (pv 2) (ag (pv 1) ao))))))
  (ar (aK (pv 2)))))), ?_⟩
 exact cE (K:=K) (ns:=kNames) (fl':=[]) (n:=6) (b:=dP)
  (ax (aO 1 (aj _))
  (ax (ik 2 (bZ (af (aj _) am)) (by decide))
  (ax (da (bf (slS (uM (ae 0) (rl (aj _)) w6))) (ll (bi (i:=3) rfl (bi (i:=4) rfl (bi (i:=5) rfl jp))))
  (ax (aO 1 (oS (ak aU (ae 1) (ae 3))))
  (jJ 2 (ae 1) rfl)))
  (gh 2 rfl)))) rfl (by decide) h
theorem sF{f:Addr}{fd:FuncData}(F:Fun K "_law_part" "_law_part" gr f fd):
 FnOk P w K mg base CX0 1 f fd ["_law_time"] (iJ K):=by
 refine F.ok rZ (fun vs H Q E h=>aP h) (fun cdv A outer s H vs Q E hr h=> ?_)
 have hu:=hr.units
 have h:spP K kNames .no 1 (bp 1 gu) vs H Q E:=by rw[←ap (bp 1 gu)];exact h
 refine⟨_,(ar (aK (aw cC (aA az (pv 0) ai (fun _ _=>rfl)) (aw d5 ai (aA az (pv 0) ai (fun _ _=>rfl)))))), ?_⟩
 exact cI (K:=K) (ns:=kNames) (fl':=[]) (n:=1) (b:=gu)
  (bG (oS (ak dS (oS (ak aC (ae 0) (aj _))) (oS (ak fW (aj _) (oS (ak aC (ae 0) (aj _)))))))) rfl (by decide) h
theorem my{f:Addr}{fd:FuncData}(F:Fun K "_law_own_spans" "_law_own_spans" cL f fd)(g_law_offsets:Got P w K mg base 1 "_law_offsets" ["_law_wheels_here"] (iu K))(g_law_part:Got P w K mg base 1 "_law_part" ["_law_time"] (iJ K))(z_zip:mg "zip"=none):
 FnOk P w K mg base CX0 2 f fd ["_law_bridge","_law_crossing"] (dj K):=by
 refine F.ok bo (fun vs H Q E h=>aP h) (fun cdv A outer s H vs Q E hr h=> ?_)
 have hu:=hr.units
 have h:spP K kNames .yes 2 (bH 10 cM) vs H Q E:=by rw[←ap (bH 10 cM)];exact h
 refine⟨_,(al (wn (pv 1) (iM rfl (aE (aF (i:=2) bo.nd rfl (by o_reads)) (aE (aF (i:=3) bo.nd rfl (by o_reads)) (aE (aF (i:=4) bo.nd rfl (by o_reads)) (aE (aF (i:=5) bo.nd rfl (by o_reads)) dW))))))
  (al (ay (i:=6) bo.nd rfl (by o_reads) (bY ao))
  (al (bK PassesOwn.never rfl (tF rfl z_zip (ag (aJ g_law_offsets hr (by o_reads) rfl (ag (pv 5) ao)) (ag (pv 5) ao))) (iM rfl (aE (aF (i:=7) bo.nd rfl (by o_reads)) (aE (aF (i:=8) bo.nd rfl (by o_reads)) dW))) (al (ay (i:=9) bo.nd rfl (by o_reads) (aw aL (aJ g_law_part hr (by o_reads) rfl (ag (pv 3) ao)) (aw cC (pv 7) (aw d5 ai (pv 4)))))
  (ar (dU (iC PySem.F.plainAttrs_list PySem.F.slot_list_append PySem.F.type_list_append bM (pv 6) (ag (cR (ag (pv 9) (ag (aw aL (pv 9) (aw cC (aA az (pv 0) ai (fun _ _=>rfl)) (aw d5 ai (pv 4)))) (ag (aA az (pv 8) ai (fun _ _=>rfl)) (ag (aA az (pv 8) ai (fun _ _=>rfl)) ao))))) ao))))))
  (ar (aK (pv 6)))))), ?_⟩
 exact cE (K:=K) (ns:=kNames) (fl':=[]) (n:=10) (b:=cM)
  (ax (Ai (ae 1) (ll (bi (i:=2) rfl (bi (i:=3) rfl (bi (i:=4) rfl (bi (i:=5) rfl jp))))))
  (ax (ik 6 (bZ am) (by decide))
  (ax (da (iS (pM (af (PuF.pe (ce (af (ae 5) am))) (af (ae 5) am)))) (ll (bi (i:=7) rfl (bi (i:=8) rfl jp)))
  (ax (aO 9 (oS (ak aU (bg (af (ae 3) am)) (oS (ak dS (ae 7) (oS (ak fW (aj _) (ae 4))))))))
  (jJ 6 (df (af (ae 9) (af (oS (ak aU (ae 9) (oS (ak dS (oS (ak aC (ae 0) (aj _))) (oS (ak fW (aj _) (ae 4))))))) (af (oS (ak aC (ae 8) (aj _))) (af (oS (ak aC (ae 8) (aj _))) am))))) rfl)))
  (gh 6 rfl)))) rfl (by decide) h
theorem qI{f:Addr}{fd:FuncData}(F:Fun K "_law_spans" "_law_spans" fH f fd)(g_law_own_spans:Got P w K mg base 2 "_law_own_spans" ["_law_bridge","_law_crossing"] (dj K)):
 FnOk P w K mg base CX0 3 f fd ["_law_bridge","_law_crossings"] (g6 K):=by
 refine F.ok g5 (fun vs H Q E h=>aP h) (fun cdv A outer s H vs Q E hr h=> ?_)
 have hu:=hr.units
 have h:spP K kNames .no 2 (bp 4 fL) vs H Q E:=by rw[←ap (bp 4 fL)];exact h
 refine⟨_,(al (ay (i:=2) g5.nd rfl (by o_reads) (bY ao))
  (al (bK PassesOwn.never rfl (aN (aQ (pv 1)) (aN (bb (pv 1)) (be (pv 1)))) (aF (i:=3) g5.nd rfl (by o_reads)) (ar (cY (aY (jN hu) (aA az (pv 3) ai (fun _ _=>rfl)) (aA az (pv 0) ai (fun _ _=>rfl)) (bd _)) (ar (ay (i:=2) g5.nd rfl (by o_reads) (aw aL (pv 2) (aJ g_law_own_spans hr (by o_reads) rfl (ag (pv 0) (ag (pv 3) ao)))))) bh)))
  (ar (aK (pv 2))))), ?_⟩
 exact cI (K:=K) (ns:=kNames) (fl':=[]) (n:=4) (b:=fL)
  (ax (aO 2 (PuF.pe (bZ am)))
  (ax (da (bf (ae 1)) (cH 3 rfl)
  (gd (bW (oS (ak ja (oS (ak aC (ae 3) (aj _))) (oS (ak aC (ae 0) (aj _)))))) (aO 2 (oS (ak aU (ae 2) (PuF.pe (ce (af (ae 0) (af (ae 3) am)))))))
  bL))
  (bG (ae 2)))) rfl (by decide) h
theorem oj{f:Addr}{fd:FuncData}(F:Fun K "_law_placed" "_law_placed" dz f fd)(g_law_allowed:Got P w K mg base 2 "_law_allowed" ["_law_bridge","_law_shuts_here","_law_spans_here","_law_own"] (eE K))(g_law_spans:Got P w K mg base 3 "_law_spans" ["_law_bridge","_law_crossings"] (g6 K))(g_law_own_spans:Got P w K mg base 2 "_law_own_spans" ["_law_bridge","_law_crossing"] (dj K)):
 FnOk P w K mg base CX0 4 f fd ["_law_bridges_here","_law_shuts_here","_law_crossings"] (iX K):=by
 refine F.ok gL (fun vs H Q E h=>aP h) (fun cdv A outer s H vs Q E hr h=> ?_)
 have hu:=hr.units
 have h:spP K kNames .yes 3 (bH 6 eQ) vs H Q E:=by rw[←ap (bH 6 eQ)];exact h
 refine⟨_,(al (ay (i:=3) gL.nd rfl (by o_reads) (bY ao))
  (al (bK PassesOwn.never rfl (aN (aQ (pv 2)) (aN (bb (pv 2)) (be (pv 2)))) (aF (i:=4) gL.nd rfl (by o_reads)) (al (ay (i:=5) gL.nd rfl (by o_reads) (aA az (d6 ["_law_crossing"] [4] (CompC.to mN rfl rfl) rfl (aN (aQ (pv 0)) (aN (bb (pv 0)) (be (pv 0)))) (fun _ _ _ _ _=>(iE (aY (kd (K:=K) rfl (by exact hu)) (aA (bO (K:=K) rfl) (pv 0) ai (fun _ _=>rfl)) (aA (bO (K:=K) rfl) (pv 1) ai (fun _ _=>rfl)) (bd _)))) (fun _ _ _ _ _=>(pv 0))) ai (fun _ _=>rfl)))
  (ar (cY (fU (aJ g_law_allowed hr (by o_reads) rfl (ag (pv 5) (ag (pv 1) (ag (aJ g_law_spans hr (by o_reads) rfl (ag (pv 5) (ag (pv 3) ao))) (ag (aJ g_law_own_spans hr (by o_reads) rfl (ag (pv 5) (ag (pv 4) ao))) ao)))))) (ar (dU (iC PySem.F.plainAttrs_list PySem.F.slot_list_append PySem.F.type_list_append bM (pv 3) (ag (pv 4) ao)))) bh))))
  (ar (aK (pv 3))))), ?_⟩
 exact cE (K:=K) (ns:=kNames) (fl':=[]) (n:=6) (b:=eQ)
  (ax (ik 3 (bZ am) (by decide))
  (ax (da (bf (ae 2)) (cH 4 rfl)
  (ax (aO 5 (oS (ak aC (PuF.pe (fX (bf (ae 0)) (bW (oS (ak ja (oS (ak aC (ae 0) (aj _))) (oS (ak aC (ae 1) (aj _)))))) (ae 0))) (aj _))))
  (gd (ig (bg (af (ae 5) (af (ae 1) (af (bg (af (ae 5) (af (ae 3) am))) (af (PuF.pe (ce (af (ae 5) (af (ae 4) am)))) am)))))) (jJ 3 (ae 4) rfl)
  bL)))
  (gh 3 rfl))) rfl (by decide) h
theorem sG{f:Addr}{fd:FuncData}(F:Fun K "_law_frac" "_law_frac" gp f fd)(z_abs:mg "abs"=none):
 FnOk P w K mg base CX0 1 f fd ["_law_above","_law_beneath"] (iK K):=by
 refine F.ok gP (fun vs H Q E h=>aP h) (fun cdv A outer s H vs Q E hr h=> ?_)
 have hu:=hr.units
 have h:spP K kNames .no 2 (bp 4 gv) vs H Q E:=by rw[←ap (bp 4 gv)];exact h
 refine⟨_,(al (ay (i:=2) gP.nd rfl (by o_reads) (aS kT rfl z_abs uE (ag (pv 0) ao)))
  (al (ay (i:=3) gP.nd rfl (by o_reads) (aS kT rfl z_abs uE (ag (pv 1) ao)))
  (al (qQ PassesOwn.never (aY (lQ hu) (pv 3) ai (bd _)) (ar (AS (i:=2) (j:=3) rfl gP.nd rfl rfl (by decide) rfl rfl (ag (pv 3) (ag (aw bA (pv 2) (pv 3)) ao)) rfl)))
  (al (cY (aY kB (pv 1) ai (bd _)) (ar (ay (i:=2) gP.nd rfl (by o_reads) (wq sZ (pv 2)))) bh)
  (ar (aK (cR (ag (aw d5 (pv 0) (pv 2)) (ag (aw d5 (pv 1) (pv 2)) ao))))))))), ?_⟩
 exact cI (K:=K) (ns:=kNames) (fl':=[]) (n:=4) (b:=gv)
  (ax (aO 2 (cS (dX pJ (af (ae 0) am))))
  (ax (aO 3 (cS (dX pJ (af (ae 1) am))))
  (ax (uP (bW (oS (ak oH (ae 3) (aj _))))
  (Dh 2 3 (af (ae 3) (af (oS (ak bB (ae 2) (ae 3))) am)) rfl rfl))
  (ax (gd (bW (oS (ak kE (ae 1) (aj _)))) (aO 2 (uS (wX pI (ae 2))))
  bL)
  (bG (df (af (oS (ak fW (ae 0) (ae 2))) (af (oS (ak fW (ae 1) (ae 2))) am)))))))) rfl (by decide) h
theorem om{f:Addr}{fd:FuncData}(F:Fun K "_law_wheels" "_law_wheels" eK f fd)(g_law_mix:Got P w K mg base 1 "_law_mix" ["_law_cell","_law_factor"] (eD K))(z_range:mg "range"=none):
 FnOk P w K mg base CX0 2 f fd ["_law_cell","_law_bears"] (iY K):=by
 refine F.ok cm (fun vs H Q E h=>aP h) (fun cdv A outer s H vs Q E hr h=> ?_)
 have hu:=hr.units
 have h:spP K kNames .yes 2 (bH 8 eR) vs H Q E:=by rw[←ap (bH 8 eR)];exact h
 refine⟨_,(al (ay (i:=2) cm.nd rfl (by o_reads) (aJ g_law_mix hr (by o_reads) rfl (ag (pv 0) (ag ai ao))))
  (al (ay (i:=3) cm.nd rfl (by o_reads) (aw aL ai (aw bA (pv 2) ai)))
  (al (ay (i:=4) cm.nd rfl (by o_reads) (bY ao))
  (al (bK PassesOwn.never rfl (i6 rfl z_range (ag (pv 3) ao)) (aF (i:=5) cm.nd rfl (by o_reads)) (al (ay (i:=6) cm.nd rfl (by o_reads) (aJ g_law_mix hr (by o_reads) rfl (ag (aw aL (pv 0) (aw cC ai (pv 5))) (ag ai ao))))
  (al (ay (i:=7) cm.nd rfl (by o_reads) (aw bA (pv 6) (aw aL (aw d5 (pv 1) (pv 3)) ai)))
  (al (cY (aY (jN hu) (aw bA (aw db (pv 6) ai) ai) ai (bd _)) (ar (ay (i:=7) cm.nd rfl (by o_reads) (aw d5 (pv 1) (pv 3)))) bh)
  (ar (dU (iC PySem.F.plainAttrs_list PySem.F.slot_list_append PySem.F.type_list_append bM (pv 4) (ag (cR (ag (aw aL ai (aw bA (aw db (pv 6) ai) ai)) (ag (aw iN (pv 7) (aw bA (aw db (pv 6) ai) (aw aL (pv 7) ai))) (ag (pv 7) ao)))) ao))))))))
  (ar (aK (pv 4))))))), ?_⟩
 exact cE (K:=K) (ns:=kNames) (fl':=[]) (n:=8) (b:=eR)
  (ax (aO 2 (bg (af (ae 0) (af (aj _) am))))
  (ax (aO 3 (oS (ak aU (aj _) (oS (ak bB (ae 2) (aj _))))))
  (ax (ik 4 (bZ am) (by decide))
  (ax (da (iS (lj (af (ae 3) am))) (cH 5 rfl)
  (ax (aO 6 (bg (af (oS (ak aU (ae 0) (oS (ak dS (aj _) (ae 5))))) (af (aj _) am))))
  (ax (aO 7 (oS (ak bB (ae 6) (oS (ak aU (oS (ak fW (ae 1) (ae 3))) (aj _))))))
  (ax (gd (bW (oS (ak ja (oS (ak bB (oS (ak bX (ae 6) (aj _))) (aj _))) (aj _)))) (aO 7 (oS (ak fW (ae 1) (ae 3))))
  bL)
  (jJ 4 (df (af (oS (ak aU (aj _) (oS (ak bB (oS (ak bX (ae 6) (aj _))) (aj _))))) (af (oS (ak iP (ae 7) (oS (ak bB (oS (ak bX (ae 6) (aj _))) (oS (ak aU (ae 7) (aj _))))))) (af (ae 7) am)))) rfl)))))
  (gh 4 rfl))))) rfl (by decide) h
theorem nW{f:Addr}{fd:FuncData}(F:Fun K "_law_fitting" "_law_fitting" cU f fd)(g_law_wheels:Got P w K mg base 2 "_law_wheels" ["_law_cell","_law_bears"] (iY K))(g_law_mix:Got P w K mg base 1 "_law_mix" ["_law_cell","_law_factor"] (eD K)):
 FnOk P w K mg base CX0 3 f fd ["_law_cell","_law_bridge"] (ix K):=by
 refine F.ok io (fun vs H Q E h=>aP h) (fun cdv A outer s H vs Q E hr h=> ?_)
 have hu:=hr.units
 have h:spP K kNames .yes 2 (bH 4 cv) vs H Q E:=by rw[←ap (bH 4 cv)];exact h
 refine⟨_,(al (ay (i:=2) io.nd rfl (by o_reads) (aJ g_law_wheels hr (by o_reads) rfl (ag (pv 0) (ag (aA az (pv 1) ai (fun _ _=>rfl)) ao))))
  (al (ay (i:=3) io.nd rfl (by o_reads) (aJ g_law_mix hr (by o_reads) rfl (ag (pv 0) (ag ai ao))))
  (al (cY (PW.pt (ur (aY wv (aA az (pv 1) ai (fun _ _=>rfl)) ai (bd _)) (sR (aY (jN hu) (aw bA (pv 3) ai) ai (bd _))))) (ar (aK (pv 2))) bh)
  (ar (aK (jO ["_law_bridge","_law_one"] [1,3] (CompCT.to eL rfl rfl) rfl rfl (fun _ _ _ _ _=>(kY (K:=K) (n:=3) rfl rfl (aE (dc (CompCT.to eL rfl rfl) 0 rfl (by decide)) (aE (dc (CompCT.to eL rfl rfl) 1 rfl (by decide)) (aE (dc (CompCT.to eL rfl rfl) 2 rfl (by decide)) dW))))) (aN (aQ (pv 2)) (aN (bb (pv 2)) (be (pv 2)))) (fun _ _ _ _ _=>iD) (fun _ _ _ _ _=>(cR (ag (aw (m7 (K:=K) rfl) (aA (bO (K:=K) rfl) (pv 3) ai (fun _ _=>rfl)) (aw bA (aw db (pv 4) ai) ai)) (ag ai (ag (aw iN (aA (bO (K:=K) rfl) (pv 3) ai (fun _ _=>rfl)) (aw bA (aw db (pv 4) ai) ai)) ao))))))))))), ?_⟩
 exact cE (K:=K) (ns:=kNames) (fl':=[]) (n:=4) (b:=cv)
  (ax (ik 2 (ce (af (ae 0) (af (oS (ak aC (ae 1) (aj _))) am))) (by decide))
  (ax (aO 3 (bg (af (ae 0) (af (aj _) am))))
  (ax (gd (pG (bW (oS (ak wY (oS (ak aC (ae 1) (aj _))) (aj _)))) (bW (oS (ak ja (oS (ak bB (ae 3) (aj _))) (aj _))))) (gh 2 rfl)
  bL)
  (lY (jS (bf (ae 2)) jP (df (af (oS (ak aU (oS (ak aC (ae 3) (aj _))) (oS (ak bB (oS (ak bX (ae 4) (aj _))) (aj _))))) (af (aj _) (af (oS (ak iP (oS (ak aC (ae 3) (aj _))) (oS (ak bB (oS (ak bX (ae 4) (aj _))) (aj _))))) am))))))))) rfl (by decide) h
theorem qJ{f:Addr}{fd:FuncData}(F:Fun K "_law_close" "_law_close" eu f fd)(g_law_mix:Got P w K mg base 1 "_law_mix" ["_law_cell","_law_factor"] (eD K))(g_law_frac:Got P w K mg base 1 "_law_frac" ["_law_above","_law_beneath"] (iK K))(g_law_fitting:Got P w K mg base 3 "_law_fitting" ["_law_cell","_law_bridge"] (ix K))(z_list:mg "list"=none)(z_len:mg "len"=none):
 FnOk P w K mg base CX0 4 f fd ["_law_cells","_law_bridges_here","_law_first"] (jB K):=by
 refine F.ok cj (fun vs H Q E h=>aP h) (fun cdv A outer s H vs Q E hr h=> ?_)
 have hu:=hr.units
 have h:spP K kNames .no 3 (bp 9 fM) vs H Q E:=by rw[←ap (bp 9 fM)];exact h
 refine⟨_,(al (ay (i:=3) cj.nd rfl (by o_reads) (kc gY rfl z_list lP (ag (pv 2) ao)))
  (al (bK PassesOwn.never rfl (aN (aQ (pv 0)) (aN (bb (pv 0)) (be (pv 0)))) (aF (i:=4) cj.nd rfl (by o_reads)) (al (ay (i:=5) cj.nd rfl (by o_reads) (aJ g_law_mix hr (by o_reads) rfl (ag (pv 4) (ag ai ao))))
  (al (ay (i:=6) cj.nd rfl (by o_reads) (aA az (pv 1) (aw bA (aw db (pv 5) ai) (aS pA rfl z_len kW (ag (pv 1) ao))) (fun _ _=>rfl)))
  (al (ay (i:=7) cj.nd rfl (by o_reads) (aJ g_law_frac hr (by o_reads) rfl (ag (aw bA (aw db (pv 5) ai) ai) (ag (aA az (bY (ag ai (ag ai (ag ai (ag ai (ag ai (ag ai ao))))))) (aw bA (pv 5) ai) (fun _ _=>rfl)) ao))))
  (al (ay (i:=8) cj.nd rfl (by o_reads) (cR (ag (aA az (pv 6) ai (fun _ _=>rfl)) (ag (pv 7) (ag (aw aL ai (aw bA (aw db (pv 5) ai) ai)) (ag (aJ g_law_fitting hr (by o_reads) rfl (ag (pv 4) (ag (pv 6) ao))) ao))))))
  (al (cY (PW.pt (mX (aY (lQ hu) (pv 3) (bY ao) (bd _)) (kR (aY (jN hu) (aw bA (aw db (pv 5) ai) ai) ai (bd _))))) (al (ay (i:=6) cj.nd rfl (by o_reads) (aA az (d6 ["_law_found"] [3] (CompC.to nD rfl rfl) rfl (aN (aQ (pv 1)) (aN (bb (pv 1)) (be (pv 1)))) (fun _ _ _ _ _=>(iE (aY (kd (K:=K) rfl (by exact hu)) (aA (bO (K:=K) rfl) (pv 0) ai (fun _ _=>rfl)) (aA (bO (K:=K) rfl) (aA (bO (K:=K) rfl) (pv 1) ai (fun _ _=>rfl)) ai (fun _ _=>rfl)) (bd _)))) (fun _ _ _ _ _=>(pv 0))) ai (fun _ _=>rfl)))
  (ar (ay (i:=8) cj.nd rfl (by o_reads) (cR (ag (aA az (aA az (pv 3) ai (fun _ _=>rfl)) ai (fun _ _=>rfl)) (ag (aA az (aA az (pv 3) ai (fun _ _=>rfl)) ai (fun _ _=>rfl)) (ag (aA az (aA az (pv 3) ai (fun _ _=>rfl)) ai (fun _ _=>rfl)) (ag (aJ g_law_fitting hr (by o_reads) rfl (ag (pv 4) (ag (pv 6) ao))) ao)))))))) bh)
  (ar (dU (iC PySem.F.plainAttrs_list PySem.F.slot_list_append PySem.F.type_list_append bM (pv 3) (ag (pv 8) ao))))))))))
  (ar (aK (i8 slX (pv 3) (ji (aS pA rfl z_len kW (ag (pv 2) ao))) kU))))), ?_⟩
 exact cI (K:=K) (ns:=kNames) (fl':=[]) (n:=9) (b:=fM)
  (ax (ik 3 (cSF (i9 mO (af (ae 2) am))) (by decide))
  (ax (da (bf (ae 0)) (cH 4 rfl)
  (ax (aO 5 (bg (af (ae 4) (af (aj _) am))))
  (ax (aO 6 (oS (ak aC (ae 1) (oS (ak bB (oS (ak bX (ae 5) (aj _))) (cS (dX jn (af (ae 1) am))))))))
  (ax (aO 7 (bg (af (oS (ak bB (oS (ak bX (ae 5) (aj _))) (aj _))) (af (oS (ak aC (PuF.pe (bZ (af (aj _) (af (aj _) (af (aj _) (af (aj _) (af (aj _) (af (aj _) am)))))))) (oS (ak bB (ae 5) (aj _))))) am))))
  (ax (aO 8 (df (af (oS (ak aC (ae 6) (aj _))) (af (ae 7) (af (oS (ak aU (aj _) (oS (ak bB (oS (ak bX (ae 5) (aj _))) (aj _))))) (af (PuF.pe (ce (af (ae 4) (af (ae 6) am)))) am))))))
  (ax (gd (li (bW (oS (ak oH (ae 3) (PuF.pe (bZ am))))) (bW (oS (ak ja (oS (ak bB (oS (ak bX (ae 5) (aj _))) (aj _))) (aj _))))) (ax (BI 6 (oS (ak aC (PuF.pe (fX (bf (ae 1)) (bW (oS (ak ja (oS (ak aC (ae 0) (aj _))) (oS (ak aC (oS (ak aC (ae 1) (aj _))) (aj _)))))) (ae 0))) (aj _))))
  (BT 8 (zl (lC (t7 (oS (ak aC (oS (ak aC (ae 3) (aj _))) (aj _)))) (lC (t7 (oS (ak aC (oS (ak aC (ae 3) (aj _))) (aj _)))) (lC (t7 (oS (ak aC (oS (ak aC (ae 3) (aj _))) (aj _)))) (lC (zm (af (ae 4) (af (ae 6) am))) zi)))))))
  bL)
  (jJ 3 (ae 8) rfl)))))))
  (bG (slS (uM (ae 3) (rl (cS (dX jn (af (ae 2) am)))) w6))))) rfl (by decide) h
theorem oo{f:Addr}{fd:FuncData}(F:Fun K "offsets_of" "offsets_of" eI f fd):
 FnOk P w K mg base CX0 1 f fd ["wheels"] (iZ K):=by
 refine F.ok iV (fun vs H Q E h=>aP h) (fun cdv A outer s H vs Q E hr h=> ?_)
 have hu:=hr.units
 have h:spP K kNames .yes 1 (bH 3 eS) vs H Q E:=by rw[←ap (bH 3 eS)];exact h
 refine⟨_,(al (ay (i:=1) iV.nd rfl (by o_reads) (bY ao))
  (al (bK PassesOwn.never rfl (aN (aQ (pv 0)) (aN (bb (pv 0)) (be (pv 0)))) (aF (i:=2) iV.nd rfl (by o_reads)) (ar (dU (iC PySem.F.plainAttrs_list PySem.F.slot_list_append PySem.F.type_list_append bM (pv 1) (ag (wl (wy (pv 1) (fun _=>rfl)) (aw aL (aA az (pv 1) (wq sZ ai) (fun _ _=>rfl)) (aA az (pv 2) ai (fun _ _=>rfl))) ai) ao)))))
  (ar (aK (pv 1))))), ?_⟩
 exact cE (K:=K) (ns:=kNames) (fl':=[]) (n:=3) (b:=eS)
  (ax (ik 1 (bZ am) (by decide))
  (ax (da (bf (ae 0)) (cH 2 rfl)
  (BJ 1 (Db (Bx (ae 1)) (oS (ak aU (oS (ak aC (ae 1) (uS (wX pI (aj _))))) (oS (ak aC (ae 2) (aj _))))) (aj _)) rfl))
  (gh 1 rfl))) rfl (by decide) h
theorem oq{f:Addr}{fd:FuncData}(F:Fun K "bridges_of" "bridges_of" dw f fd)(d_Bridge:PKd K kNames (clA K "Bridge") ["Bridge"] ["name","length","bears","wide","most"])(n_Bridge:mg "Bridge"=some (.ref (clA K "Bridge")))(z_isinstance:mg "isinstance"=none):
 FnOk P w K mg base CX0 1 f fd ["road"] (i4 K):=by
 refine F.ok oe (fun vs H Q E h=>aP h) (fun cdv A outer s H vs Q E hr h=> ?_)
 have hu:=hr.units
 have h:spP K kNames .yes 1 (bH 1 eT) vs H Q E:=by rw[←ap (bH 1 eT)];exact h
 refine⟨_,(ar (aK (d6 [] [] (CompC.to mL rfl rfl) rfl (aN (aQ (jg (f:="pieces") (pv 0) rfl)) (aN (bb (jg (f:="pieces") (pv 0) rfl)) (be (jg (f:="pieces") (pv 0) rfl)))) (fun _ _ _ _ _=>(iE (fU (aS (vY (K:=K) rfl) rfl z_isinstance bF (ag (pv 0) (ag (Bn (K:=K) rfl rfl n_Bridge) ao)))))) (fun _ _ _ _ _=>(pv 0))))), ?_⟩
 exact cE (K:=K) (ns:=kNames) (fl':=[]) (n:=1) (b:=eT)
  (lY (fX (bf (uS (ng .pieces (ae 0)))) (ig (cS (BL .Bridge (by decide) (ae 0)))) (ae 0))) rfl (by decide) h
theorem qK{f:Addr}{fd:FuncData}(F:Fun K "bridge_of" "bridge_of" d8 f fd)(g_bridges_of:Got P w K mg base 1 "bridges_of" ["road"] (i4 K)):
 FnOk P w K mg base CX0 2 f fd ["road","name"] (hI K):=by
 refine F.ok qc (fun vs H Q E h=>aP h) (fun cdv A outer s H vs Q E hr h=> ?_)
 have hu:=hr.units
 have h:spP K kNames .no 2 (bp 2 fN) vs H Q E:=by rw[←ap (bp 2 fN)];exact h
 refine⟨_,(ar (aK (aA az (d6 ["name"] [1] (CompC.to nz rfl rfl) rfl (aN (aQ (aJ g_bridges_of hr (by o_reads) rfl (ag (pv 0) ao))) (aN (bb (aJ g_bridges_of hr (by o_reads) rfl (ag (pv 0) ao))) (be (aJ g_bridges_of hr (by o_reads) rfl (ag (pv 0) ao))))) (fun _ _ _ _ _=>(iE (aY (kd (K:=K) rfl (by exact hu)) (yK (K:=K) rfl (f:="name") (pv 0) rfl) (pv 1) (bd _)))) (fun _ _ _ _ _=>(pv 0))) ai (fun _ _=>rfl)))), ?_⟩
 exact cI (K:=K) (ns:=kNames) (fl':=[]) (n:=2) (b:=fN)
  (bG (oS (ak aC (PuF.pe (fX (bf (PuF.pe (ce (af (ae 0) am)))) (bW (oS (ak ja (uS (ng .name (ae 0))) (ae 1)))) (ae 0))) (aj _)))) rfl (by decide) h
theorem nX{f:Addr}{fd:FuncData}(F:Fun K "common_part" "common_part" dE f fd)(z_abs:mg "abs"=none):
 FnOk P w K mg base CX0 1 f fd ["one","other"] (ga K):=by
 refine F.ok dh (fun vs H Q E h=>aP h) (fun cdv A outer s H vs Q E hr h=> ?_)
 have hu:=hr.units
 have h:spP K kNames .no 2 (bp 3 dQ) vs H Q E:=by rw[←ap (bp 3 dQ)];exact h
 refine⟨_,(al (ay (i:=0) dh.nd rfl (by o_reads) (aS kT rfl z_abs uE (ag (pv 0) ao)))
  (al (ay (i:=1) dh.nd rfl (by o_reads) (aS kT rfl z_abs uE (ag (pv 1) ao)))
  (al (qQ PassesOwn.never (aY (lQ hu) (pv 1) ai (bd _)) (al (ay (i:=2) dh.nd rfl (by o_reads) (aw bA (pv 0) (pv 1)))
  (al (ay (i:=0) dh.nd rfl (by o_reads) (pv 1))
  (ar (ay (i:=1) dh.nd rfl (by o_reads) (pv 2))))))
  (ar (aK (pv 0)))))), ?_⟩
 exact cI (K:=K) (ns:=kNames) (fl':=[]) (n:=3) (b:=dQ)
  (ax (aO 0 (cS (dX pJ (af (ae 0) am))))
  (ax (aO 1 (cS (dX pJ (af (ae 1) am))))
  (ax (uP (bW (oS (ak oH (ae 1) (aj _))))
  (ax (aO 2 (oS (ak bB (ae 0) (ae 1))))
  (ax (aO 0 (ae 1))
  (aO 1 (ae 2)))))
  (bG (ae 0))))) rfl (by decide) h
theorem zQ{f:Addr}{fd:FuncData}(F:Fun K "made" "made" mj f fd)(g_common_part:Got P w K mg base 1 "common_part" ["one","other"] (ga K)):
 FnOk P w K mg base CX0 2 f fd ["above","beneath"] (lD K):=by
 refine F.ok pZ (fun vs H Q E h=>aP h) (fun cdv A outer s H vs Q E hr h=> ?_)
 have hu:=hr.units
 have h:spP K kNames .no 2 (bp 3 mo) vs H Q E:=by rw[←ap (bp 3 mo)];exact h
 refine⟨_,(al (ay (i:=2) pZ.nd rfl (by o_reads) (aJ g_common_part hr (by o_reads) rfl (ag (pv 0) (ag (pv 1) ao))))
  (al (cY (aY kB (pv 1) ai (bd _)) (ar (ay (i:=2) pZ.nd rfl (by o_reads) (wq sZ (pv 2)))) bh)
  (ar (aK (cR (ag (aw d5 (pv 0) (pv 2)) (ag (aw d5 (pv 1) (pv 2)) ao))))))), ?_⟩
 exact cI (K:=K) (ns:=kNames) (fl':=[]) (n:=3) (b:=mo)
  (ax (aO 2 (bg (af (ae 0) (af (ae 1) am))))
  (ax (gd (bW (oS (ak kE (ae 1) (aj _)))) (aO 2 (uS (wX pI (ae 2))))
  bL)
  (bG (df (af (oS (ak fW (ae 0) (ae 2))) (af (oS (ak fW (ae 1) (ae 2))) am)))))) rfl (by decide) h
theorem zR{f:Addr}{fd:FuncData}(F:Fun K "plus" "plus" ml f fd)(g_made:Got P w K mg base 2 "made" ["above","beneath"] (lD K)):
 FnOk P w K mg base CX0 3 f fd ["one","other"] (qh K):=by
 refine F.ok zn (fun vs H Q E h=>aP h) (fun cdv A outer s H vs Q E hr h=> ?_)
 have hu:=hr.units
 have h:spP K kNames .no 2 (bp 2 mr) vs H Q E:=by rw[←ap (bp 2 mr)];exact h
 refine⟨_,(ar (aK (aJ g_made hr (by o_reads) rfl (ag (aw aL (aw cC (aA az (pv 0) ai (fun _ _=>rfl)) (aA az (pv 1) ai (fun _ _=>rfl))) (aw cC (aA az (pv 1) ai (fun _ _=>rfl)) (aA az (pv 0) ai (fun _ _=>rfl)))) (ag (aw cC (aA az (pv 0) ai (fun _ _=>rfl)) (aA az (pv 1) ai (fun _ _=>rfl))) ao))))), ?_⟩
 exact cI (K:=K) (ns:=kNames) (fl':=[]) (n:=2) (b:=mr)
  (bG (bg (af (oS (ak aU (oS (ak dS (oS (ak aC (ae 0) (aj _))) (oS (ak aC (ae 1) (aj _))))) (oS (ak dS (oS (ak aC (ae 1) (aj _))) (oS (ak aC (ae 0) (aj _))))))) (af (oS (ak dS (oS (ak aC (ae 0) (aj _))) (oS (ak aC (ae 1) (aj _))))) am)))) rfl (by decide) h
theorem we{f:Addr}{fd:FuncData}(F:Fun K "driven" "driven" jc f fd)(g_plus:Got P w K mg base 3 "plus" ["one","other"] (qh K))(g_made:Got P w K mg base 2 "made" ["above","beneath"] (lD K)):
 FnOk P w K mg base CX0 4 f fd ["moment","distance","speed"] (mt K):=by
 refine F.ok v8 (fun vs H Q E h=>aP h) (fun cdv A outer s H vs Q E hr h=> ?_)
 have hu:=hr.units
 have h:spP K kNames .no 3 (bp 3 jd) vs H Q E:=by rw[←ap (bp 3 jd)];exact h
 refine⟨_,(ar (aK (aJ g_plus hr (by o_reads) rfl (ag (pv 0) (ag (aJ g_made hr (by o_reads) rfl (ag (pv 1) (ag (pv 2) ao))) ao))))), ?_⟩
 exact cI (K:=K) (ns:=kNames) (fl':=[]) (n:=3) (b:=jd)
  (bG (bg (af (ae 0) (af (bg (af (ae 1) (af (ae 2) am))) am)))) rfl (by decide) h
theorem sH{f:Addr}{fd:FuncData}(F:Fun K "times_on" "times_on" gj f fd)(g_offsets_of:Got P w K mg base 1 "offsets_of" ["wheels"] (iZ K))(g_bridge_of:Got P w K mg base 2 "bridge_of" ["road","name"] (hI K))(g_driven:Got P w K mg base 4 "driven" ["moment","distance","speed"] (mt K)):
 FnOk P w K mg base CX0 5 f fd ["road","crossing"] (jX K):=by
 refine F.ok fG (fun vs H Q E h=>aP h) (fun cdv A outer s H vs Q E hr h=> ?_)
 have hu:=hr.units
 have h:spP K kNames .yes 2 (bH 7 gw) vs H Q E:=by rw[←ap (bH 7 gw)];exact h
 refine⟨_,(al (ay (i:=2) fG.nd rfl (by o_reads) (jg (f:="length") (aJ g_bridge_of hr (by o_reads) rfl (ag (pv 0) (ag (aA az (pv 1) ai (fun _ _=>rfl)) ao))) rfl))
  (al (ay (i:=3) fG.nd rfl (by o_reads) (aA az (pv 1) ai (fun _ _=>rfl)))
  (al (ay (i:=4) fG.nd rfl (by o_reads) (bY ao))
  (al (bK PassesOwn.never rfl (aN (aQ (aJ g_offsets_of hr (by o_reads) rfl (ag (aA az (pv 1) ai (fun _ _=>rfl)) ao))) (aN (bb (aJ g_offsets_of hr (by o_reads) rfl (ag (aA az (pv 1) ai (fun _ _=>rfl)) ao))) (be (aJ g_offsets_of hr (by o_reads) rfl (ag (aA az (pv 1) ai (fun _ _=>rfl)) ao))))) (aF (i:=5) fG.nd rfl (by o_reads)) (al (ay (i:=6) fG.nd rfl (by o_reads) (aJ g_driven hr (by o_reads) rfl (ag (aA az (pv 1) ai (fun _ _=>rfl)) (ag (pv 5) (ag (pv 3) ao)))))
  (ar (dU (iC PySem.F.plainAttrs_list PySem.F.slot_list_append PySem.F.type_list_append bM (pv 4) (ag (cR (ag (pv 6) (ag (aJ g_driven hr (by o_reads) rfl (ag (pv 6) (ag (pv 2) (ag (pv 3) ao)))) ao))) ao))))))
  (ar (aK (pv 4))))))), ?_⟩
 exact cE (K:=K) (ns:=kNames) (fl':=[]) (n:=7) (b:=gw)
  (ax (aO 2 (uS (ng .length (bg (af (ae 0) (af (oS (ak aC (ae 1) (aj _))) am))))))
  (ax (aO 3 (oS (ak aC (ae 1) (aj _))))
  (ax (ik 4 (bZ am) (by decide))
  (ax (da (bf (PuF.pe (ce (af (oS (ak aC (ae 1) (aj _))) am)))) (cH 5 rfl)
  (ax (aO 6 (bg (af (oS (ak aC (ae 1) (aj _))) (af (ae 5) (af (ae 3) am)))))
  (jJ 4 (df (af (ae 6) (af (bg (af (ae 6) (af (ae 2) (af (ae 3) am)))) am))) rfl)))
  (gh 4 rfl))))) rfl (by decide) h
theorem sJ{f:Addr}{fd:FuncData}(F:Fun K "stays_of" "stays_of" gk f fd)(g_times_on:Got P w K mg base 5 "times_on" ["road","crossing"] (jX K))(z_zip:mg "zip"=none):
 FnOk P w K mg base CX0 6 f fd ["road","crossings","name"] (jY K):=by
 refine F.ok gO (fun vs H Q E h=>aP h) (fun cdv A outer s H vs Q E hr h=> ?_)
 have hu:=hr.units
 have h:spP K kNames .yes 3 (bH 7 gA) vs H Q E:=by rw[←ap (bH 7 gA)];exact h
 refine⟨_,(al (ay (i:=3) gO.nd rfl (by o_reads) (bY ao))
  (al (bK PassesOwn.never rfl (aN (aQ (pv 1)) (aN (bb (pv 1)) (be (pv 1)))) (aF (i:=4) gO.nd rfl (by o_reads)) (ar (cY (aY (jN hu) (aA az (pv 4) ai (fun _ _=>rfl)) (pv 2) (bd _)) (ar (bK PassesOwn.never rfl (tF rfl z_zip (ag (aJ g_times_on hr (by o_reads) rfl (ag (pv 0) (ag (pv 4) ao))) (ag (aA az (pv 4) ai (fun _ _=>rfl)) ao))) (iM rfl (aE (aF (i:=5) gO.nd rfl (by o_reads)) (aE (aF (i:=6) gO.nd rfl (by o_reads)) dW))) (ar (dU (iC PySem.F.plainAttrs_list PySem.F.slot_list_append PySem.F.type_list_append bM (pv 3) (ag (cR (ag (aA az (pv 5) ai (fun _ _=>rfl)) (ag (aA az (pv 5) ai (fun _ _=>rfl)) (ag (aA az (pv 6) ai (fun _ _=>rfl)) (ag (aA az (pv 6) ai (fun _ _=>rfl)) ao))))) ao)))))) bh)))
  (ar (aK (pv 3))))), ?_⟩
 exact cE (K:=K) (ns:=kNames) (fl':=[]) (n:=7) (b:=gA)
  (ax (ik 3 (bZ am) (by decide))
  (ax (da (bf (ae 1)) (cH 4 rfl)
  (gd (bW (oS (ak ja (oS (ak aC (ae 4) (aj _))) (ae 2)))) (da (iS (pM (af (PuF.pe (ce (af (ae 0) (af (ae 4) am)))) (af (oS (ak aC (ae 4) (aj _))) am)))) (ll (bi (i:=5) rfl (bi (i:=6) rfl jp)))
  (jJ 3 (df (af (oS (ak aC (ae 5) (aj _))) (af (oS (ak aC (ae 5) (aj _))) (af (oS (ak aC (ae 6) (aj _))) (af (oS (ak aC (ae 6) (aj _))) am))))) rfl))
  bL))
  (gh 3 rfl))) rfl (by decide) h
theorem lK{f:Addr}{fd:FuncData}(F:Fun K "common_beneath" "common_beneath" cx f fd)(g_common_part:Got P w K mg base 1 "common_part" ["one","other"] (ga K)):
 FnOk P w K mg base CX0 2 f fd ["some"] (gb K):=by
 refine F.ok dY (fun vs H Q E h=>aP h) (fun cdv A outer s H vs Q E hr h=> ?_)
 have hu:=hr.units
 have h:spP K kNames .no 1 (bp 3 cy) vs H Q E:=by rw[←ap (bp 3 cy)];exact h
 refine⟨_,(al (ay (i:=1) dY.nd rfl (by o_reads) ai)
  (al (bK PassesOwn.never rfl (aN (aQ (pv 0)) (aN (bb (pv 0)) (be (pv 0)))) (aF (i:=2) dY.nd rfl (by o_reads)) (ar (ay (i:=1) dY.nd rfl (by o_reads) (aw d5 (aw cC (pv 1) (aA az (pv 2) ai (fun _ _=>rfl))) (aJ g_common_part hr (by o_reads) rfl (ag (pv 1) (ag (aA az (pv 2) ai (fun _ _=>rfl)) ao)))))))
  (ar (aK (pv 1))))), ?_⟩
 exact cI (K:=K) (ns:=kNames) (fl':=[]) (n:=3) (b:=cy)
  (ax (aO 1 (aj _))
  (ax (da (bf (ae 0)) (cH 2 rfl)
  (aO 1 (oS (ak fW (oS (ak dS (ae 1) (oS (ak aC (ae 2) (aj _))))) (bg (af (ae 1) (af (oS (ak aC (ae 2) (aj _))) am)))))))
  (bG (ae 1)))) rfl (by decide) h
theorem sK{f:Addr}{fd:FuncData}(F:Fun K "parts_in" "parts_in" gi f fd):
 FnOk P w K mg base CX0 1 f fd ["fraction","beneath"] (iL K):=by
 refine F.ok rX (fun vs H Q E h=>aP h) (fun cdv A outer s H vs Q E hr h=> ?_)
 have hu:=hr.units
 have h:spP K kNames .no 2 (bp 2 gC) vs H Q E:=by rw[←ap (bp 2 gC)];exact h
 refine⟨_,(ar (aK (aw cC (aA az (pv 0) ai (fun _ _=>rfl)) (aw d5 (pv 1) (aA az (pv 0) ai (fun _ _=>rfl)))))), ?_⟩
 exact cI (K:=K) (ns:=kNames) (fl':=[]) (n:=2) (b:=gC)
  (bG (oS (ak dS (oS (ak aC (ae 0) (aj _))) (oS (ak fW (ae 1) (oS (ak aC (ae 0) (aj _)))))))) rfl (by decide) h
theorem nY{f:Addr}{fd:FuncData}(F:Fun K "whole_stays" "whole_stays" cT f fd)(g_parts_in:Got P w K mg base 1 "parts_in" ["fraction","beneath"] (iL K)):
 FnOk P w K mg base CX0 2 f fd ["stays","unit"] (iy K):=by
 refine F.ok nA (fun vs H Q E h=>aP h) (fun cdv A outer s H vs Q E hr h=> ?_)
 have hu:=hr.units
 have h:spP K kNames .yes 2 (bH 2 dR) vs H Q E:=by rw[←ap (bH 2 dR)];exact h
 refine⟨_,(ar (aK (d6 ["unit"] [1] (CompC.to mn rfl rfl) rfl (aN (aQ (pv 0)) (aN (bb (pv 0)) (be (pv 0)))) (fun _ _ _ _ _=>iD) (fun _ _ _ _ _=>(cR (ag (xi g_parts_in (by rfl) (by rfl) (by rfl) (by rfl) (by rfl) (by exact hr) (by o_reads) rfl (ag (aA (bO (K:=K) rfl) (pv 0) ai (fun _ _=>rfl)) (ag (pv 1) ao))) (ag (xi g_parts_in (by rfl) (by rfl) (by rfl) (by rfl) (by rfl) (by exact hr) (by o_reads) rfl (ag (aA (bO (K:=K) rfl) (pv 0) ai (fun _ _=>rfl)) (ag (pv 1) ao))) (ag (aA (bO (K:=K) rfl) (pv 0) ai (fun _ _=>rfl)) ao)))))))), ?_⟩
 exact cE (K:=K) (ns:=kNames) (fl':=[]) (n:=2) (b:=dR)
  (lY (fX (bf (ae 0)) jP (df (af (bg (af (oS (ak aC (ae 0) (aj _))) (af (ae 1) am))) (af (bg (af (oS (ak aC (ae 0) (aj _))) (af (ae 1) am))) (af (oS (ak aC (ae 0) (aj _))) am)))))) rfl (by decide) h
theorem mz{f:Addr}{fd:FuncData}(F:Fun K "crowded_spans" "crowded_spans" cJ f fd):
 FnOk P w K mg base CX0 1 f fd ["others","own","bears"] (gE K):=by
 refine F.ok eJ (fun vs H Q E h=>aP h) (fun cdv A outer s H vs Q E hr h=> ?_)
 have hu:=hr.units
 have h:spP K kNames .yes 3 (bH 6 cN) vs H Q E:=by rw[←ap (bH 6 cN)];exact h
 refine⟨_,(al (ay (i:=3) eJ.nd rfl (by o_reads) (bY ao))
  (al (bK PassesOwn.never rfl (aN (aQ (pv 0)) (aN (bb (pv 0)) (be (pv 0)))) (aF (i:=4) eJ.nd rfl (by o_reads)) (ar (bK PassesOwn.never rfl (aN (aQ (pv 1)) (aN (bb (pv 1)) (be (pv 1)))) (aF (i:=5) eJ.nd rfl (by o_reads)) (ar (cY (aY wv (aw aL (aA az (pv 4) ai (fun _ _=>rfl)) (aA az (pv 5) ai (fun _ _=>rfl))) (pv 2) (bd _)) (ar (dU (iC PySem.F.plainAttrs_list PySem.F.slot_list_append PySem.F.type_list_append bM (pv 3) (ag (cR (ag (aw iN (aA az (pv 4) ai (fun _ _=>rfl)) (aA az (pv 5) ai (fun _ _=>rfl))) (ag (aw iN (aA az (pv 4) ai (fun _ _=>rfl)) (aA az (pv 5) ai (fun _ _=>rfl))) ao))) ao)))) bh)))))
  (ar (aK (pv 3))))), ?_⟩
 exact cE (K:=K) (ns:=kNames) (fl':=[]) (n:=6) (b:=cN)
  (ax (ik 3 (bZ am) (by decide))
  (ax (da (bf (ae 0)) (cH 4 rfl)
  (da (bf (ae 1)) (cH 5 rfl)
  (gd (bW (oS (ak wY (oS (ak aU (oS (ak aC (ae 4) (aj _))) (oS (ak aC (ae 5) (aj _))))) (ae 2)))) (jJ 3 (df (af (oS (ak iP (oS (ak aC (ae 4) (aj _))) (oS (ak aC (ae 5) (aj _))))) (af (oS (ak iP (oS (ak aC (ae 4) (aj _))) (oS (ak aC (ae 5) (aj _))))) am))) rfl)
  bL)))
  (gh 3 rfl))) rfl (by decide) h
theorem sL{f:Addr}{fd:FuncData}(F:Fun K "steps_of" "steps_of" gl f fd)(z_sorted:mg "sorted"=none)(z_zip:mg "zip"=none):
 FnOk P w K mg base CX0 1 f fd ["stays"] (jZ K):=by
 refine F.ok cQ (fun vs H Q E h=>aP h) (fun cdv A outer s H vs Q E hr h=> ?_)
 have hu:=hr.units
 have h:spP K kNames .yes 1 (bH 8 gF) vs H Q E:=by rw[←ap (bH 8 gF)];exact h
 refine⟨_,(al (ay (i:=1) cQ.nd rfl (by o_reads) wR)
  (al (bK PassesOwn.never rfl (aN (aQ (pv 0)) (aN (bb (pv 0)) (be (pv 0)))) (aF (i:=2) cQ.nd rfl (by o_reads)) (al (uJ (hu1 hu) (pv 1) (aA az (pv 2) ai (fun _ _=>rfl)) (aw aL (ri (hu1 hu) (pv 1) (aA az (pv 2) ai (fun _ _=>rfl)) ai ⟨rfl,rfl,rfl,rfl⟩) (aA az (pv 2) ai (fun _ _=>rfl))) rfl)
  (ar (uJ (hu1 hu) (pv 1) (aA az (pv 2) ai (fun _ _=>rfl)) (aw iN (ri (hu1 hu) (pv 1) (aA az (pv 2) ai (fun _ _=>rfl)) ai ⟨rfl,rfl,rfl,rfl⟩) (aA az (pv 2) ai (fun _ _=>rfl))) rfl))))
  (al (ay (i:=3) cQ.nd rfl (by o_reads) (aS (iH rfl) rfl z_sorted ly (ag (pv 1) ao)))
  (al (ay (i:=4) cQ.nd rfl (by o_reads) (bY ao))
  (al (ay (i:=5) cQ.nd rfl (by o_reads) ai)
  (al (bK PassesOwn.never rfl (tF rfl z_zip (ag (pv 3) (ag (i8 slX (pv 3) (ji ai) kU) ao))) (iM rfl (aE (aF (i:=6) cQ.nd rfl (by o_reads)) (aE (aF (i:=7) cQ.nd rfl (by o_reads)) dW))) (al (ay (i:=5) cQ.nd rfl (by o_reads) (aw aL (pv 5) (yM (hu1 hu) (pv 1) (pv 6) (fun _ _=>rfl))))
  (ar (dU (iC PySem.F.plainAttrs_list PySem.F.slot_list_append PySem.F.type_list_append bM (pv 4) (ag (cR (ag (pv 6) (ag (pv 7) (ag (pv 5) ao)))) ao))))))
  (ar (aK (pv 4))))))))), ?_⟩
 exact cE (K:=K) (ns:=kNames) (fl':=[]) (n:=8) (b:=gF)
  (ax (y6 1 (by decide))
  (ax (da (bf (ae 0)) (cH 2 rfl)
  (ax (xl 1 (oS (ak aC (ae 2) (aj _))) (oS (ak aU (oK (ae 1) (oS (ak aC (ae 2) (aj _))) (aj _)) (oS (ak aC (ae 2) (aj _))))) rfl)
  (xl 1 (oS (ak aC (ae 2) (aj _))) (oS (ak iP (oK (ae 1) (oS (ak aC (ae 2) (aj _))) (aj _)) (oS (ak aC (ae 2) (aj _))))) rfl)))
  (ax (Ah [1] (aO 3 (PuF.pe (cSF (i9 rW (af (ae 1) am))))))
  (ax (ik 4 (bZ am) (by decide))
  (ax (aO 5 (aj _))
  (ax (da (iS (pM (af (ae 3) (af (slS (uM (ae 3) (rl (aj _)) w6)) am)))) (ll (bi (i:=6) rfl (bi (i:=7) rfl jp)))
  (ax (aO 5 (oS (ak aU (ae 5) (oS (y4 (ae 1) (ae 6))))))
  (jJ 4 (df (af (ae 6) (af (ae 7) (af (ae 5) am)))) rfl)))
  (gh 4 rfl))))))) rfl (by decide) h
theorem ot{f:Addr}{fd:FuncData}(F:Fun K "shut_spans" "shut_spans" dy f fd):
 FnOk P w K mg base CX0 1 f fd ["shuts","own","unit"] (i5 K):=by
 refine F.ok iW (fun vs H Q E h=>aP h) (fun cdv A outer s H vs Q E hr h=> ?_)
 have hu:=hr.units
 have h:spP K kNames .yes 3 (bH 5 eV) vs H Q E:=by rw[←ap (bH 5 eV)];exact h
 refine⟨_,(al (ay (i:=3) iW.nd rfl (by o_reads) (bY ao))
  (al (bK PassesOwn.never rfl (aN (aQ (pv 0)) (aN (bb (pv 0)) (be (pv 0)))) (aF (i:=4) iW.nd rfl (by o_reads)) (ar (dU (iC PySem.F.plainAttrs_list PySem.F.slot_list_extend PySem.F.type_list_extend vR (pv 3) (ag (d6 ["shut","unit"] [4,2] (CompC.to mM rfl rfl) rfl (aN (aQ (pv 1)) (aN (bb (pv 1)) (be (pv 1)))) (fun _ _ _ _ _=>iD) (fun _ _ _ _ _=>(cR (ag (aw iN (aw cC (aA (bO (K:=K) rfl) (pv 1) ai (fun _ _=>rfl)) (pv 2)) (aA (bO (K:=K) rfl) (pv 0) ai (fun _ _=>rfl))) (ag (aw iN (aw cC (aA (bO (K:=K) rfl) (pv 1) ai (fun _ _=>rfl)) (pv 2)) (aA (bO (K:=K) rfl) (pv 0) ai (fun _ _=>rfl))) ao))))) ao)))))
  (ar (aK (pv 3))))), ?_⟩
 exact cE (K:=K) (ns:=kNames) (fl':=[]) (n:=5) (b:=eV)
  (ax (ik 3 (bZ am) (by decide))
  (ax (da (bf (ae 0)) (cH 4 rfl)
  (Df 3 (PuF.pe (fX (bf (ae 1)) jP (df (af (oS (ak iP (oS (ak dS (oS (ak aC (ae 1) (aj _))) (ae 2))) (oS (ak aC (ae 0) (aj _))))) (af (oS (ak iP (oS (ak dS (oS (ak aC (ae 1) (aj _))) (ae 2))) (oS (ak aC (ae 0) (aj _))))) am))))) rfl))
  (gh 3 rfl))) rfl (by decide) h
theorem mB{f:Addr}{fd:FuncData}(F:Fun K "least_outside" "least_outside" cK f fd)(z_sorted:mg "sorted"=none):
 FnOk P w K mg base CX0 1 f fd ["spans","moment"] (gG K):=by
 refine F.ok gm (fun vs H Q E h=>aP h) (fun cdv A outer s H vs Q E hr h=> ?_)
 have hu:=hr.units
 have h:spP K kNames .no 2 (bp 3 cO) vs H Q E:=by rw[←ap (bp 3 cO)];exact h
 refine⟨_,(al (bK PassesOwn.never rfl (aN (aQ (aS (iH rfl) rfl z_sorted ly (ag (pv 0) ao))) (aN (bb (aS (iH rfl) rfl z_sorted ly (ag (pv 0) ao))) (be (aS (iH rfl) rfl z_sorted ly (ag (pv 0) ao))))) (aF (i:=2) gm.nd rfl (by o_reads)) (ar (cY (PW.pt (mX (aY kB (aA az (pv 2) ai (fun _ _=>rfl)) (pv 1) (bd _)) (kR (aY kB (pv 1) (aA az (pv 2) ai (fun _ _=>rfl)) (bd _))))) (ar (ay (i:=1) gm.nd rfl (by o_reads) (aA az (pv 2) ai (fun _ _=>rfl)))) bh)))
  (ar (aK (pv 1)))), ?_⟩
 exact cI (K:=K) (ns:=kNames) (fl':=[]) (n:=3) (b:=cO)
  (ax (da (bf (PuF.pe (cSF (i9 rW (af (ae 0) am))))) (cH 2 rfl)
  (gd (li (bW (oS (ak kE (oS (ak aC (ae 2) (aj _))) (ae 1)))) (bW (oS (ak kE (ae 1) (oS (ak aC (ae 2) (aj _))))))) (aO 1 (oS (ak aC (ae 2) (aj _))))
  bL))
  (bG (ae 1))) rfl (by decide) h
theorem sM{f:Addr}{fd:FuncData}(F:Fun K "shuts_of" "shuts_of" fA f fd):
 FnOk P w K mg base CX0 1 f fd ["road","name"] (j0 K):=by
 refine F.ok rY (fun vs H Q E h=>aP h) (fun cdv A outer s H vs Q E hr h=> ?_)
 have hu:=hr.units
 have h:spP K kNames .yes 2 (bH 2 gH) vs H Q E:=by rw[←ap (bH 2 gH)];exact h
 refine⟨_,(ar (aK (d6 ["name"] [1] (CompC.to og rfl rfl) rfl (aN (aQ (jg (f:="shuts") (pv 0) rfl)) (aN (bb (jg (f:="shuts") (pv 0) rfl)) (be (jg (f:="shuts") (pv 0) rfl)))) (fun _ _ _ _ _=>(iE (aY (kd (K:=K) rfl (by exact hu)) (aA (bO (K:=K) rfl) (pv 0) ai (fun _ _=>rfl)) (pv 1) (bd _)))) (fun _ _ _ _ _=>(cR (ag (aA (bO (K:=K) rfl) (pv 0) ai (fun _ _=>rfl)) (ag (aA (bO (K:=K) rfl) (pv 0) ai (fun _ _=>rfl)) ao))))))), ?_⟩
 exact cE (K:=K) (ns:=kNames) (fl':=[]) (n:=2) (b:=gH)
  (lY (fX (bf (uS (ng .shuts (ae 0)))) (bW (oS (ak ja (oS (ak aC (ae 0) (aj _))) (ae 1)))) (df (af (oS (ak aC (ae 0) (aj _))) (af (oS (ak aC (ae 0) (aj _))) am))))) rfl (by decide) h
theorem yi{f:Addr}{fd:FuncData}(F:Fun K "whole" "whole" kh f fd):
 FnOk P w K mg base CX0 1 f fd ["number"] (nF K):=by
 refine F.ok xC (fun vs H Q E h=>aP h) (fun cdv A outer s H vs Q E hr h=> ?_)
 have hu:=hr.units
 have h:spP K kNames .no 1 (bp 1 kj) vs H Q E:=by rw[←ap (bp 1 kj)];exact h
 refine⟨_,(ar (aK (cR (ag (pv 0) (ag ai ao))))), ?_⟩
 exact cI (K:=K) (ns:=kNames) (fl':=[]) (n:=1) (b:=kj)
  (bG (df (af (ae 0) (af (aj _) am)))) rfl (by decide) h
theorem sN{f:Addr}{fd:FuncData}(F:Fun K "entry_at" "entry_at" d9 f fd)(g_stays_of:Got P w K mg base 6 "stays_of" ["road","crossings","name"] (jY K))(g_common_beneath:Got P w K mg base 2 "common_beneath" ["some"] (gb K))(g_whole_stays:Got P w K mg base 2 "whole_stays" ["stays","unit"] (iy K))(g_crowded_spans:Got P w K mg base 1 "crowded_spans" ["others","own","bears"] (gE K))(g_made:Got P w K mg base 2 "made" ["above","beneath"] (lD K))(g_steps_of:Got P w K mg base 1 "steps_of" ["stays"] (jZ K))(g_shut_spans:Got P w K mg base 1 "shut_spans" ["shuts","own","unit"] (i5 K))(g_least_outside:Got P w K mg base 1 "least_outside" ["spans","moment"] (gG K))(g_bridge_of:Got P w K mg base 2 "bridge_of" ["road","name"] (hI K))(g_shuts_of:Got P w K mg base 1 "shuts_of" ["road","name"] (j0 K))(g_parts_in:Got P w K mg base 1 "parts_in" ["fraction","beneath"] (iL K))(g_whole:Got P w K mg base 1 "whole" ["number"] (nF K)):
 FnOk P w K mg base CX0 7 f fd ["road","crossings","name","speed","wheels","coming"] (j3 K):=by
 refine F.ok dl (fun vs H Q E h=>aP h) (fun cdv A outer s H vs Q E hr h=> ?_)
 have hu:=hr.units
 have h:spP K kNames .no 6 (bp 10 gI) vs H Q E:=by rw[←ap (bp 10 gI)];exact h
 refine⟨_,(al (ay (i:=6) dl.nd rfl (by o_reads) (aJ g_stays_of hr (by o_reads) rfl (ag (pv 0) (ag (bY (ag (cR (ag (pv 2) (ag (aJ g_whole hr (by o_reads) rfl (ag ai ao)) (ag (pv 3) (ag (pv 4) ao))))) ao)) (ag (pv 2) ao)))))
  (al (ay (i:=7) dl.nd rfl (by o_reads) (aJ g_stays_of hr (by o_reads) rfl (ag (pv 0) (ag (pv 1) (ag (pv 2) ao)))))
  (al (ay (i:=8) dl.nd rfl (by o_reads) (aJ g_common_beneath hr (by o_reads) rfl (ag (aw aL (aw aL (bY (ag (pv 5) ao)) (d6 [] [] (CompC.to oh rfl rfl) rfl (aN (aQ (aw aL (pv 6) (pv 7))) (aN (bb (aw aL (pv 6) (pv 7))) (be (aw aL (pv 6) (pv 7))))) (fun _ _ _ _ _=>iD) (fun _ _ _ _ _=>(aA (bO (K:=K) rfl) (pv 0) ai (fun _ _=>rfl))))) (d6 [] [] (CompC.to oi rfl rfl) rfl (aN (aQ (aw aL (pv 6) (pv 7))) (aN (bb (aw aL (pv 6) (pv 7))) (be (aw aL (pv 6) (pv 7))))) (fun _ _ _ _ _=>iD) (fun _ _ _ _ _=>(aA (bO (K:=K) rfl) (pv 0) ai (fun _ _=>rfl))))) ao)))
  (al (ay (i:=6) dl.nd rfl (by o_reads) (aJ g_whole_stays hr (by o_reads) rfl (ag (pv 6) (ag (pv 8) ao))))
  (al (ay (i:=7) dl.nd rfl (by o_reads) (aJ g_whole_stays hr (by o_reads) rfl (ag (pv 7) (ag (pv 8) ao))))
  (al (ay (i:=9) dl.nd rfl (by o_reads) (aJ g_crowded_spans hr (by o_reads) rfl (ag (aJ g_steps_of hr (by o_reads) rfl (ag (pv 7) ao)) (ag (aJ g_steps_of hr (by o_reads) rfl (ag (pv 6) ao)) (ag (jg (f:="bears") (aJ g_bridge_of hr (by o_reads) rfl (ag (pv 0) (ag (pv 2) ao))) rfl) ao)))))
  (al (ay (i:=9) dl.nd rfl (by o_reads) (aw aL (pv 9) (aJ g_shut_spans hr (by o_reads) rfl (ag (aJ g_shuts_of hr (by o_reads) rfl (ag (pv 0) (ag (pv 2) ao))) (ag (pv 6) (ag (pv 8) ao))))))
  (ar (aK (aJ g_made hr (by o_reads) rfl (ag (aJ g_least_outside hr (by o_reads) rfl (ag (pv 9) (ag (aJ g_parts_in hr (by o_reads) rfl (ag (pv 5) (ag (pv 8) ao))) ao))) (ag (pv 8) ao)))))))))))), ?_⟩
 exact cI (K:=K) (ns:=kNames) (fl':=[]) (n:=10) (b:=gI)
  (ax (aO 6 (PuF.pe (ce (af (ae 0) (af (PuF.pe (bZ (af (df (af (ae 2) (af (bg (af (aj _) am)) (af (ae 3) (af (ae 4) am))))) am))) (af (ae 2) am))))))
  (ax (aO 7 (PuF.pe (ce (af (ae 0) (af (ae 1) (af (ae 2) am))))))
  (ax (aO 8 (bg (af (oS (ak aU (oS (ak aU (PuF.pe (bZ (af (ae 5) am))) (PuF.pe (fX (bf (oS (ak aU (ae 6) (ae 7)))) jP (oS (ak aC (ae 0) (aj _))))))) (PuF.pe (fX (bf (oS (ak aU (ae 6) (ae 7)))) jP (oS (ak aC (ae 0) (aj _))))))) am)))
  (ax (aO 6 (PuF.pe (ce (af (ae 6) (af (ae 8) am)))))
  (ax (aO 7 (PuF.pe (ce (af (ae 7) (af (ae 8) am)))))
  (ax (aO 9 (PuF.pe (ce (af (PuF.pe (ce (af (ae 7) am))) (af (PuF.pe (ce (af (ae 6) am))) (af (uS (ng .bears (bg (af (ae 0) (af (ae 2) am))))) am))))))
  (ax (aO 9 (oS (ak aU (ae 9) (PuF.pe (ce (af (PuF.pe (ce (af (ae 0) (af (ae 2) am)))) (af (ae 6) (af (ae 8) am))))))))
  (bG (bg (af (bg (af (ae 9) (af (bg (af (ae 5) (af (ae 8) am))) am))) (af (ae 8) am))))))))))) rfl (by decide) h
theorem qL{f:Addr}{fd:FuncData}(F:Fun K "_law_moved" "_law_moved" eA f fd):
 FnOk P w K mg base CX0 1 f fd ["_law_own","_law_by"] (jE K):=by
 refine F.ok qe (fun vs H Q E h=>aP h) (fun cdv A outer s H vs Q E hr h=> ?_)
 have hu:=hr.units
 have h:spP K kNames .yes 2 (bH 2 fO) vs H Q E:=by rw[←ap (bH 2 fO)];exact h
 refine⟨_,(ar (aK (jO ["_law_by"] [1] (CompCT.to eB rfl rfl) rfl rfl (fun _ _ _ _ _=>(kY (K:=K) (n:=4) rfl rfl (aE (dc (CompCT.to eB rfl rfl) 0 rfl (by decide)) (aE (dc (CompCT.to eB rfl rfl) 1 rfl (by decide)) (aE (dc (CompCT.to eB rfl rfl) 2 rfl (by decide)) (aE (dc (CompCT.to eB rfl rfl) 3 rfl (by decide)) dW)))))) (aN (aQ (pv 0)) (aN (bb (pv 0)) (be (pv 0)))) (fun _ _ _ _ _=>iD) (fun _ _ _ _ _=>(cR (ag (aw (m7 (K:=K) rfl) (pv 0) (pv 4)) (ag (aw (m7 (K:=K) rfl) (pv 1) (pv 4)) (ag (pv 2) (ag (pv 3) ao))))))))), ?_⟩
 exact cE (K:=K) (ns:=kNames) (fl':=[]) (n:=2) (b:=fO)
  (lY (jS (bf (ae 0)) jP (df (af (oS (ak aU (ae 0) (ae 4))) (af (oS (ak aU (ae 1) (ae 4))) (af (ae 2) (af (ae 3) am))))))) rfl (by decide) h
theorem kP{f:Addr}{fd:FuncData}(F:Fun K "_law_none_sooner" "_law_none_sooner" bq f fd)(g_law_moved:Got P w K mg base 1 "_law_moved" ["_law_own","_law_by"] (jE K))(g_law_allowed:Got P w K mg base 2 "_law_allowed" ["_law_bridge","_law_shuts_here","_law_spans_here","_law_own"] (eE K))(g_law_shut_of:Got P w K mg base 1 "_law_shut_of" ["_law_shuts_here","_law_name"] (fY K)):
 FnOk P w K mg base CX0 3 f fd ["_law_bridge","_law_shuts_here","_law_spans_here","_law_own","_law_coming"] (fD K):=by
 refine F.ok bn (fun vs H Q E h=>aP h) (fun cdv A outer s H vs Q E hr h=> ?_)
 have hu:=hr.units
 have h:spP K kNames .no 5 (bp 12 bQ) vs H Q E:=by rw[←ap (bp 12 bQ)];exact h
 refine⟨_,(al (ay (i:=5) bn.nd rfl (by o_reads) (aA az (aA az (pv 3) ai (fun _ _=>rfl)) ai (fun _ _=>rfl)))
  (al (ay (i:=6) bn.nd rfl (by o_reads) (aw aL (jO [] [] (CompCT.to eC rfl rfl) rfl rfl (fun _ _ _ _ _=>(kY (K:=K) (n:=2) rfl rfl (aE (dc (CompCT.to eC rfl rfl) 0 rfl (by decide)) (aE (dc (CompCT.to eC rfl rfl) 1 rfl (by decide)) dW)))) (aN (aQ (aJ g_law_shut_of hr (by o_reads) rfl (ag (pv 1) (ag (aA az (pv 0) ai (fun _ _=>rfl)) ao)))) (aN (bb (aJ g_law_shut_of hr (by o_reads) rfl (ag (pv 1) (ag (aA az (pv 0) ai (fun _ _=>rfl)) ao)))) (be (aJ g_law_shut_of hr (by o_reads) rfl (ag (pv 1) (ag (aA az (pv 0) ai (fun _ _=>rfl)) ao)))))) (fun _ _ _ _ _=>iD) (fun _ _ _ _ _=>(aw cC ai (pv 1)))) (d6 [] [] (CompC.to jT rfl rfl) rfl (aN (aQ (pv 2)) (aN (bb (pv 2)) (be (pv 2)))) (fun _ _ _ _ _=>iD) (fun _ _ _ _ _=>(aA (bO (K:=K) rfl) (pv 0) ai (fun _ _=>rfl))))))
  (al (ay (i:=7) bn.nd rfl (by o_reads) (bY (ag (pv 4) ao)))
  (al (bK PassesOwn.never rfl (aN (aQ (pv 6)) (aN (bb (pv 6)) (be (pv 6)))) (aF (i:=8) bn.nd rfl (by o_reads)) (ar (bK PassesOwn.never rfl (aN (aQ (pv 3)) (aN (bb (pv 3)) (be (pv 3)))) (aF (i:=9) bn.nd rfl (by o_reads)) (ar (dU (iC PySem.F.plainAttrs_list PySem.F.slot_list_append PySem.F.type_list_append bM (pv 7) (ag (aw iN (pv 8) (aw iN (aA az (pv 9) ai (fun _ _=>rfl)) (pv 5))) ao)))))))
  (al (bK PassesOwn.never rfl (aN (aQ (pv 7)) (aN (bb (pv 7)) (be (pv 7)))) (aF (i:=10) bn.nd rfl (by o_reads)) (ar (cY (qR zX kB (pv 4) (pv 10) (pv 5)) (al (ay (i:=11) bn.nd rfl (by o_reads) (aJ g_law_moved hr (by o_reads) rfl (ag (pv 3) (ag (aw iN (pv 10) (pv 5)) ao))))
  (ar (cY (fU (aJ g_law_allowed hr (by o_reads) rfl (ag (pv 0) (ag (pv 1) (ag (pv 2) (ag (pv 11) ao)))))) (ar (aK fR)) bh))) bh)))
  (ar (aK fR))))))), ?_⟩
 exact cI (K:=K) (ns:=kNames) (fl':=[]) (n:=12) (b:=bQ)
  (ax (aO 5 (oS (ak aC (oS (ak aC (ae 3) (aj _))) (aj _))))
  (ax (aO 6 (oS (ak aU (PuF.pe (jS (bf (PuF.pe (ce (af (ae 1) (af (oS (ak aC (ae 0) (aj _))) am))))) jP (oS (ak dS (aj _) (ae 1))))) (PuF.pe (fX (bf (ae 2)) jP (oS (ak aC (ae 0) (aj _))))))))
  (ax (ik 7 (bZ (af (ae 4) am)) (by decide))
  (ax (da (bf (ae 6)) (cH 8 rfl)
  (da (bf (ae 3)) (cH 9 rfl)
  (jJ 7 (oS (ak iP (ae 8) (oS (ak iP (oS (ak aC (ae 9) (aj _))) (ae 5))))) rfl)))
  (ax (Ah [7] (da (bf (ae 7)) (cH 10 rfl)
  (gd (bW (rB Af kE (ae 4) (ae 10) (ae 5))) (ax (aO 11 (PuF.pe (ce (af (ae 3) (af (oS (ak iP (ae 10) (ae 5))) am)))))
  (gd (ig (bg (af (ae 0) (af (ae 1) (af (ae 2) (af (ae 11) am)))))) (bG (fV _))
  bL))
  bL)))
  (bG (fV _))))))) rfl (by decide) h
theorem mC{P:Program}{w:World}{K:W.Frag}{mg:Str→Option Value}{base:Heap}{f:Addr}{fd:FuncData}{ps:List Str}{n:Nat}:FnOk P w K mg base CX0 0 f fd ps (spP K kNames .no n fun _=>none):=⟨fun vs H Q E h=>(by obtain⟨_,_,_,_,_,z,_⟩:=h;cases z),fun A outer s H args us vs Q E _ _ _ _ h=>(by obtain⟨_,_,_,_,_,z,_⟩:=h;cases z)⟩
theorem jf{P:Program}{w:World}{K:W.Frag}{mg:Str→Option Value}{base:Heap}{fu:Addr}{du:FuncData}(Fu:Fun K "_law_same" "_law_same" gn fu du)(bu:Binds K du ["_law_found","_law_due"] [])(ku:W.keepIn K (.ref fu)=true)(mu:mg "_law_same"=some (.ref fu))(z_bool:mg "bool"=none)(z_int:mg "int"=none)(z_isinstance:mg "isinstance"=none)(z_len:mg "len"=none)(z_list:mg "list"=none)(z_range:mg "range"=none)(z_str:mg "str"=none)(z_tuple:mg "tuple"=none):∀n:Nat,Got P w K mg base (n) "_law_same" ["_law_found","_law_due"] (spP K kNames .no 2 (bU n))
 |0=>⟨⟨_,_,mC,bu,ku,mu⟩⟩
 |n+1=>by
  have g_law_same:=jf (P:=P) (w:=w) (base:=base) Fu bu ku mu z_bool z_int z_isinstance z_len z_list z_range z_str z_tuple n
  have h0:FnOk P w K mg base CX0 (n+1) fu du ["_law_found","_law_due"] (spP K kNames .no 2 (bU (n+1))):=by
   refine Fu.ok mH (fun vs H Q E h=>aP h) (fun cdv A outer s H vs Q E hr h=> ?_)
   have hu:=hr.units
   simp only[bU,ap] at h
   refine⟨_,(al (cY (aY lU (pv 1) wj (bd _)) (ar (aK (kS lU (pv 0) wj (bd _)))) bh)
          (al (cY (aY lU (pv 1) fR (bd _)) (ar (aK (kS lU (pv 0) fR (bd _)))) bh)
          (al (cY (aY lU (pv 1) fR (bd _)) (ar (aK (kS lU (pv 0) fR (bd _)))) bh)
          (al (cY (fU (aS eZ rfl z_isinstance bF (ag (pv 1) (ag (gK (v:= .ty "int") rfl z_int z6 rfl) ao)))) (ar (aK (sV (aS eZ rfl z_isinstance bF (ag (pv 0) (ag (gK (v:= .ty "int") rfl z_int z6 rfl) ao))) (sV (AO (aS eZ rfl z_isinstance bF (ag (pv 0) (ag (gK (v:= .ty "bool") rfl z_bool Bf rfl) ao)))) (wk (kS (jN hu) (pv 0) (pv 1) (bd _))))))) bh)
          (al (cY (fU (aS eZ rfl z_isinstance bF (ag (pv 1) (ag (gK (v:= .ty "str") rfl z_str z7 rfl) ao)))) (ar (aK (sV (aS eZ rfl z_isinstance bF (ag (pv 0) (ag (gK (v:= .ty "str") rfl z_str z7 rfl) ao))) (wk (kS (jN hu) (pv 0) (pv 1) (bd _)))))) bh)
          (al (cY (PW.pt (mX (fU (aS eZ rfl z_isinstance bF (ag (pv 1) (ag (gK (v:= .ty "list") rfl z_list lP rfl) ao)))) (kR (kI (fU (aS eZ rfl z_isinstance bF (ag (pv 0) (ag (gK (v:= .ty "list") rfl z_list lP rfl) ao)))))))) (ar (aK fR)) bh)
          (al (cY (PW.pt (mX (fU (aS eZ rfl z_isinstance bF (ag (pv 1) (ag (gK (v:= .ty "tuple") rfl z_tuple pB rfl) ao)))) (kR (kI (fU (aS eZ rfl z_isinstance bF (ag (pv 0) (ag (gK (v:= .ty "tuple") rfl z_tuple pB rfl) ao)))))))) (ar (aK fR)) bh)
          (al (cY (aY (lQ hu) (aS pA rfl z_len kW (ag (pv 0) ao)) (aS pA rfl z_len kW (ag (pv 1) ao)) (bd _)) (ar (aK fR)) bh)
          (al (bK PassesOwn.never rfl (i6 rfl z_range (ag (aS pA rfl z_len kW (ag (pv 1) ao)) ao)) (aF (i:=2) mH.nd rfl (by o_reads)) (ar (cY (kI (fU (aJ g_law_same hr (by o_reads) rfl (ag (aA az (pv 0) (pv 2) (fun _ _=>rfl)) (ag (aA az (pv 1) (pv 2) (fun _ _=>rfl)) ao))))) (ar (aK fR)) bh)))
          (ar (aK fR))))))))))), ?_⟩
   exact cI (K:=K) (ns:=kNames) (fl':=[]) (n:=3) (b:=iA (bU n))
         (ax (gd (bW (oS (ak oI (ae 1) wW))) (bG (oS (ak oI (ae 0) wW)))
         bL)
         (ax (gd (bW (oS (ak oI (ae 1) (fV _)))) (bG (oS (ak oI (ae 0) (fV _))))
         bL)
         (ax (gd (bW (oS (ak oI (ae 1) (fV _)))) (bG (oS (ak oI (ae 0) (fV _))))
         bL)
         (ax (gd (ig (cS (iQ "int" (by decide) (ae 1)))) (bG (tK (cS (iQ "int" (by decide) (ae 0))) (tK (By (cS (iQ "bool" (by decide) (ae 0)))) (oS (ak ja (ae 0) (ae 1))))))
         bL)
         (ax (gd (ig (cS (iQ "str" (by decide) (ae 1)))) (bG (tK (cS (iQ "str" (by decide) (ae 0))) (oS (ak ja (ae 0) (ae 1)))))
         bL)
         (ax (gd (li (ig (cS (iQ "list" (by decide) (ae 1)))) (jk (ig (cS (iQ "list" (by decide) (ae 0)))))) (bG (fV _))
         bL)
         (ax (gd (li (ig (cS (iQ "tuple" (by decide) (ae 1)))) (jk (ig (cS (iQ "tuple" (by decide) (ae 0)))))) (bG (fV _))
         bL)
         (ax (gd (bW (oS (ak oH (cS (dX jn (af (ae 0) am))) (cS (dX jn (af (ae 1) am)))))) (bG (fV _))
         bL)
         (ax (da (iS (lj (af (cS (dX jn (af (ae 1) am))) am))) (cH 2 rfl)
         (gd (jk (ig (bg (af (oS (ak aC (ae 0) (ae 2))) (af (oS (ak aC (ae 1) (ae 2))) am))))) (bG (fV _))
         bL))
         (bG (fV _))))))))))) rfl (by decide) h
  exact⟨⟨_,_,h0,bu,ku,mu⟩⟩
theorem Co{f:Addr}{fd:FuncData}(F:Fun K "law" "law" kH f fd)(g_law_cell_at:Got P w K mg base 1 "_law_cell_at" ["_law_script","_law_k"] (ip K))(g_law_bridges:Got P w K mg base 2 "_law_bridges" ["_law_cell","_law_count"] (iq K))(g_law_shuts:Got P w K mg base 2 "_law_shuts" ["_law_cell","_law_bridges_here"] (jw K))(g_law_road:Got P w K mg base 3 "_law_road" ["_law_bridges_here","_law_rounds","_law_shuts_here"] (jV K))(g_law_mix:Got P w K mg base 1 "_law_mix" ["_law_cell","_law_factor"] (eD K))(g_law_placed:Got P w K mg base 4 "_law_placed" ["_law_bridges_here","_law_shuts_here","_law_crossings"] (iX K))(g_law_close:Got P w K mg base 4 "_law_close" ["_law_cells","_law_bridges_here","_law_first"] (jB K))(g_entry_at:Got P w K mg base 7 "entry_at" ["road","crossings","name","speed","wheels","coming"] (j3 K))(g_law_own_spans:Got P w K mg base 2 "_law_own_spans" ["_law_bridge","_law_crossing"] (dj K))(g_law_spans:Got P w K mg base 3 "_law_spans" ["_law_bridge","_law_crossings"] (g6 K))(g_law_allowed:Got P w K mg base 2 "_law_allowed" ["_law_bridge","_law_shuts_here","_law_spans_here","_law_own"] (eE K))(g_law_none_sooner:Got P w K mg base 3 "_law_none_sooner" ["_law_bridge","_law_shuts_here","_law_spans_here","_law_own","_law_coming"] (fD K))(g_law_same:Got P w K mg base 12 "_law_same" ["_law_found","_law_due"] (r6 K))(g_law_part:Got P w K mg base 1 "_law_part" ["_law_time"] (iJ K))(g_law_frac:Got P w K mg base 1 "_law_frac" ["_law_above","_law_beneath"] (iK K))(z_range:mg "range"=none)(z_isinstance:mg "isinstance"=none)(z_tuple:mg "tuple"=none)(z_len:mg "len"=none):
 FnOk P w K mg base CX0 13 f fd ["_law_script"] (qD K):=by
 refine F.ok eY (fun vs H Q E h=>by obtain⟨a,ns,rfl,_⟩:=h;rfl) (fun cdv A outer s H vs Q E hr h=> ?_)
 obtain⟨a,ns,e,hS,hlen,k⟩:=h
 have h:spP K kNames .no 1 vi vs H Q E:=BK e hS (yh ns hlen) k
 have hu:=hr.units
 simp only[vi,ap] at h
 refine⟨_,(al (ay (i:=1) eY.nd rfl (by o_reads) (aJ g_law_cell_at hr (by o_reads) rfl (ag (pv 0) (ag ai ao))))
  (al (ay (i:=2) eY.nd rfl (by o_reads) (aJ g_law_bridges hr (by o_reads) rfl (ag (pv 1) (ag (aw aL ai (aw bA (aJ g_law_mix hr (by o_reads) rfl (ag (pv 1) (ag ai ao))) ai)) ao))))
  (al (ay (i:=3) eY.nd rfl (by o_reads) (aJ g_law_shuts hr (by o_reads) rfl (ag (pv 1) (ag (pv 2) ao))))
  (al (ay (i:=4) eY.nd rfl (by o_reads) (aJ g_law_road hr (by o_reads) rfl (ag (pv 2) (ag (bY ao) (ag (pv 3) ao)))))
  (al (ay (i:=5) eY.nd rfl (by o_reads) (aJ g_law_mix hr (by o_reads) rfl (ag (aJ g_law_cell_at hr (by o_reads) rfl (ag (pv 0) (ag ai ao))) (ag ai ao))))
  (al (ay (i:=6) eY.nd rfl (by o_reads) (aJ g_law_placed hr (by o_reads) rfl (ag (pv 2) (ag (pv 3) (ag (aJ g_law_close hr (by o_reads) rfl (ag (i8 slX (pv 0) (ji ai) (ji ai)) (ag (pv 2) (ag (bY ao) ao)))) ao)))))
  (al (bK PassesOwn.never rfl (i6 rfl z_range (ag ai ao)) (aF (i:=7) eY.nd rfl (by o_reads)) (al (wn (aA az (aJ g_law_close hr (by o_reads) rfl (ag (bY (ag (aw aL (pv 5) (pv 7)) ao)) (ag (pv 2) (ag (pv 6) ao)))) ai (fun _ _=>rfl)) (iM rfl (aE (aF (i:=8) eY.nd rfl (by o_reads)) (aE (aF (i:=9) eY.nd rfl (by o_reads)) (aE (aF (i:=10) eY.nd rfl (by o_reads)) (aE (aF (i:=11) eY.nd rfl (by o_reads)) dW))))))
  (al (ay (i:=12) eY.nd rfl (by o_reads) (aA az (d6 ["_law_name"] [8] (CompC.to xD rfl rfl) rfl (aN (aQ (pv 2)) (aN (bb (pv 2)) (be (pv 2)))) (fun _ _ _ _ _=>(iE (aY (kd (K:=K) rfl (by exact hu)) (aA (bO (K:=K) rfl) (pv 0) ai (fun _ _=>rfl)) (pv 1) (bd _)))) (fun _ _ _ _ _=>(pv 0))) ai (fun _ _=>rfl)))
  (al (ay (i:=13) eY.nd rfl (by o_reads) (aJ g_entry_at hr (by o_reads) rfl (ag (pv 4) (ag (pv 6) (ag (pv 8) (ag (pv 10) (ag (pv 11) (ag (pv 9) ao))))))))
  (al (cY (PW.pt (ur (kI (fU (aS eZ rfl z_isinstance bF (ag (pv 13) (ag (gK (v:= .ty "tuple") rfl z_tuple pB rfl) ao))))) (ur (aY (lQ hu) (aS pA rfl z_len kW (ag (pv 13) ao)) ai (bd _)) (sR (kI (fU (aJ g_law_same hr (by o_reads) rfl (ag (pv 13) (ag (aJ g_law_frac hr (by o_reads) rfl (ag (aA az (pv 13) ai (fun _ _=>rfl)) (ag (aA az (pv 13) ai (fun _ _=>rfl)) ao))) ao))))))))) (ar (aK fR)) bh)
  (al (cY (PW.pt (ur (aY (lQ hu) (aw bA ai (aA az (pv 13) ai (fun _ _=>rfl))) ai (bd _)) (sR (aY kB (aJ g_law_part hr (by o_reads) rfl (ag (pv 13) ao)) (aJ g_law_part hr (by o_reads) rfl (ag (pv 9) ao)) (bd _))))) (ar (aK fR)) bh)
  (al (ay (i:=14) eY.nd rfl (by o_reads) (aJ g_law_own_spans hr (by o_reads) rfl (ag (pv 12) (ag (cR (ag (pv 8) (ag (pv 13) (ag (pv 10) (ag (pv 11) ao))))) ao))))
  (al (ay (i:=15) eY.nd rfl (by o_reads) (aJ g_law_spans hr (by o_reads) rfl (ag (pv 12) (ag (pv 6) ao))))
  (al (cY (kI (fU (aJ g_law_allowed hr (by o_reads) rfl (ag (pv 12) (ag (pv 3) (ag (pv 15) (ag (pv 14) ao))))))) (ar (aK fR)) bh)
  (ar (cY (kI (fU (aJ g_law_none_sooner hr (by o_reads) rfl (ag (pv 12) (ag (pv 3) (ag (pv 15) (ag (pv 14) (ag (aJ g_law_part hr (by o_reads) rfl (ag (pv 9) ao)) ao)))))))) (ar (aK fR)) bh)))))))))))
  (ar (aK fR))))))))), ?_⟩
 exact cI (K:=K) (ns:=kNames) (fl':=[]) (n:=16) (b:=vh)
  (ax (aO 1 (bg (af (ae 0) (af (aj _) am))))
  (ax (aO 2 (PuF.pe (ce (af (ae 1) (af (oS (ak aU (aj _) (oS (ak bB (bg (af (ae 1) (af (aj _) am))) (aj _))))) am)))))
  (ax (aO 3 (PuF.pe (ce (af (ae 1) (af (ae 2) am)))))
  (ax (aO 4 (bg (af (ae 2) (af (PuF.pe (bZ am)) (af (ae 3) am)))))
  (ax (aO 5 (bg (af (bg (af (ae 0) (af (aj _) am))) (af (aj _) am))))
  (ax (aO 6 (PuF.pe (ce (af (ae 2) (af (ae 3) (af (bg (af (slS (uM (ae 0) (rl (aj _)) (rl (aj _)))) (af (ae 2) (af (PuF.pe (bZ am)) am)))) am))))))
  (ax (da (iS (lj (af (aj _) am))) (cH 7 rfl)
  (ax (Ai (oS (ak aC (bg (af (PuF.pe (bZ (af (oS (ak aU (ae 5) (ae 7))) am))) (af (ae 2) (af (ae 6) am)))) (aj _))) (ll (bi (i:=8) rfl (bi (i:=9) rfl (bi (i:=10) rfl (bi (i:=11) rfl jp))))))
  (ax (aO 12 (oS (ak aC (PuF.pe (fX (bf (ae 2)) (bW (oS (ak ja (oS (ak aC (ae 0) (aj _))) (ae 1)))) (ae 0))) (aj _))))
  (ax (aO 13 (bg (af (ae 4) (af (ae 6) (af (ae 8) (af (ae 10) (af (ae 11) (af (ae 9) am))))))))
  (ax (gd (pG (jk (ig (cS (iQ "tuple" (by decide) (ae 13))))) (pG (bW (oS (ak oH (cS (dX jn (af (ae 13) am))) (aj _)))) (jk (ig (bg (af (ae 13) (af (bg (af (oS (ak aC (ae 13) (aj _))) (af (oS (ak aC (ae 13) (aj _))) am))) am))))))) (bG (fV _))
  bL)
  (ax (gd (pG (bW (oS (ak oH (oS (ak bB (aj _) (oS (ak aC (ae 13) (aj _))))) (aj _)))) (bW (oS (ak kE (bg (af (ae 13) am)) (bg (af (ae 9) am)))))) (bG (fV _))
  bL)
  (ax (aO 14 (PuF.pe (ce (af (ae 12) (af (df (af (ae 8) (af (ae 13) (af (ae 10) (af (ae 11) am))))) am)))))
  (ax (aO 15 (bg (af (ae 12) (af (ae 6) am))))
  (ax (gd (jk (ig (bg (af (ae 12) (af (ae 3) (af (ae 15) (af (ae 14) am))))))) (bG (fV _))
  bL)
  (gd (jk (ig (bg (af (ae 12) (af (ae 3) (af (ae 15) (af (ae 14) (af (bg (af (ae 9) am)) am)))))))) (bG (fV _))
  bL))))))))))
  (bG (fV _))))))))) rfl (by decide) h
end
theorem all_mk{l:W.OpenLaw}{w:World}{K:W.Frag}{h:Heap}{mg:Str→Option Value}{fa f0 f1 f2 f3 f4 f5 f6 f7 f8 f9 f10 f11 f12 f13 f14 f15 f16 f17 f18 f19 f20 f21 f22 f23 f24 f25 f26 f27 f28 f29 f30 f31 f32 f33 f34 f35 f36 f37 f38 f39 f40 f41 f42:Addr}(X:K.In h)(G:h.Ns mainGlobals mg)(hfa:mg "law"=some (.ref fa))
 {od0 an0 od1 an1 od2 an2 od3 an3 od4 an4 od5 an5 od6 an6 od7 an7 od8 an8 od9 an9 od10 an10 od11 an11 od12 an12 od13 an13 od14 an14 od15 an15 od16 an16 od17 an17 od18 an18 od19 an19 od20 an20 od21 an21 od22 an22 od23 an23 od24 an24 od25 an25 od26 an26 od27 an27 od28 an28 od29 an29 od30 an30 od31 an31 od32 an32 od33 an33 od34 an34 od35 an35 od36 an36 od37 an37 od38 an38 od39 an39 od40 an40 od41 an41 od42 an42:Option Addr}{sl0 sl1 sl2 sl3 sl4 sl5 sl6 sl7 sl8 sl9 sl10 sl11 sl12 sl13 sl14 sl15 sl16 sl17 sl18 sl19 sl20 sl21 sl22 sl23 sl24 sl25 sl26 sl27 sl28 sl29 sl30 sl31 sl32 sl33 sl34 sl35 sl36 sl37 sl38 sl39 sl40 sl41 sl42:Array (Option Value)}{oc0 kV0 dc0 pm0 cd0 ct0 oc1 kV1 dc1 pm1 cd1 ct1 oc2 kV2 dc2 pm2 cd2 ct2 oc3 kV3 dc3 pm3 cd3 ct3 oc4 kV4 dc4 pm4 cd4 ct4 oc5 kV5 dc5 pm5 cd5 ct5 oc6 kV6 dc6 pm6 cd6 ct6 oc7 kV7 dc7 pm7 cd7 ct7 oc8 kV8 dc8 pm8 cd8 ct8 oc9 kV9 dc9 pm9 cd9 ct9 oc10 kV10 dc10 pm10 cd10 ct10 oc11 kV11 dc11 pm11 cd11 ct11 oc12 kV12 dc12 pm12 cd12 ct12 oc13 kV13 dc13 pm13 cd13 ct13 oc14 kV14 dc14 pm14 cd14 ct14 oc15 kV15 dc15 pm15 cd15 ct15 oc16 kV16 dc16 pm16 cd16 ct16 oc17 kV17 dc17 pm17 cd17 ct17 oc18 kV18 dc18 pm18 cd18 ct18 oc19 kV19 dc19 pm19 cd19 ct19 oc20 kV20 dc20 pm20 cd20 ct20 oc21 kV21 dc21 pm21 cd21 ct21 oc22 kV22 dc22 pm22 cd22 ct22 oc23 kV23 dc23 pm23 cd23 ct23 oc24 kV24 dc24 pm24 cd24 ct24 oc25 kV25 dc25 pm25 cd25 ct25 oc26 kV26 dc26 pm26 cd26 ct26 oc27 kV27 dc27 pm27 cd27 ct27 oc28 kV28 dc28 pm28 cd28 ct28 oc29 kV29 dc29 pm29 cd29 ct29 oc30 kV30 dc30 pm30 cd30 ct30 oc31 kV31 dc31 pm31 cd31 ct31 oc32 kV32 dc32 pm32 cd32 ct32 oc33 kV33 dc33 pm33 cd33 ct33 oc34 kV34 dc34 pm34 cd34 ct34 oc35 kV35 dc35 pm35 cd35 ct35 oc36 kV36 dc36 pm36 cd36 ct36 oc37 kV37 dc37 pm37 cd37 ct37 oc38 kV38 dc38 pm38 cd38 ct38 oc39 kV39 dc39 pm39 cd39 ct39 oc40 kV40 dc40 pm40 cd40 ct40 oc41 kV41 dc41 pm41 cd41 ct41 oc42 kV42 dc42 pm42 cd42 ct42:Value}
 {C0 C1 C2:Addr}{xd0 xd1 xd2:Option Addr}{xc0 xc1 xc2:ClassData}{xs0 xs1 xs2:Array (Option Value)}
 (x0:W.nsIn K mainGlobals "Open"=some (some (.ref C0)))(xl0:K.lookup C0=some ⟨.type "type",xd0, .cls xc0,xs0⟩)
 (xi0:W.findIn K (.ref C0) "__init__"=some (some (.ref f5)))
 (x1:W.nsIn K mainGlobals "Bridge"=some (some (.ref C1)))(xl1:K.lookup C1=some ⟨.type "type",xd1, .cls xc1,xs1⟩)
 (xi1:W.findIn K (.ref C1) "__init__"=some (some (.ref f6)))
 (x2:W.nsIn K mainGlobals "Road"=some (some (.ref C2)))(xl2:K.lookup C2=some ⟨.type "type",xd2, .cls xc2,xs2⟩)
 (xi2:W.findIn K (.ref C2) "__init__"=some (some (.ref f4)))
 (xo0:xc0.mro=[.ref C0, .type "object"])(xk0:([C0,C1,C2].map fun D=>xc0.mro.contains (.ref D))=kNames.map (List.contains (α:=Str) ["Open"]))
 (xa0:W.plainGet K C0 Str.empty=true)(xb0:W.hasDictIn K C0=true)(xg0:W.plainOver K C0=true)(xe0:W.findIn K (.ref C0) "__setattr__"=some (some (.builtin "object.__setattr__")))(xf0:W.findIn K (.ref C0) "__class__"=some (some (.builtin "object.__class__")))
 (xm0:W.makesIn K C0=true)(xn0:W.isFn K (.ref f5)=true)(xp0:W.keepIn K (.ref C0)=true)
 (xna0_0:W.findIn K (.ref C0) "length"=some none)
 (xo1:xc1.mro=[.ref C1, .type "object"])(xk1:([C0,C1,C2].map fun D=>xc1.mro.contains (.ref D))=kNames.map (List.contains (α:=Str) ["Bridge"]))
 (xa1:W.plainGet K C1 Str.empty=true)(xb1:W.hasDictIn K C1=true)(xg1:W.plainOver K C1=true)(xe1:W.findIn K (.ref C1) "__setattr__"=some (some (.builtin "object.__setattr__")))(xf1:W.findIn K (.ref C1) "__class__"=some (some (.builtin "object.__class__")))
 (xm1:W.makesIn K C1=true)(xn1:W.isFn K (.ref f6)=true)(xp1:W.keepIn K (.ref C1)=true)
 (xna1_0:W.findIn K (.ref C1) "name"=some none)
 (xna1_1:W.findIn K (.ref C1) "length"=some none)
 (xna1_2:W.findIn K (.ref C1) "bears"=some none)
 (xna1_3:W.findIn K (.ref C1) "wide"=some none)
 (xna1_4:W.findIn K (.ref C1) "most"=some none)
 (xo2:xc2.mro=[.ref C2, .type "object"])(xk2:([C0,C1,C2].map fun D=>xc2.mro.contains (.ref D))=kNames.map (List.contains (α:=Str) ["Road"]))
 (xa2:W.plainGet K C2 Str.empty=true)(xb2:W.hasDictIn K C2=true)(xg2:W.plainOver K C2=true)(xe2:W.findIn K (.ref C2) "__setattr__"=some (some (.builtin "object.__setattr__")))(xf2:W.findIn K (.ref C2) "__class__"=some (some (.builtin "object.__class__")))
 (xm2:W.makesIn K C2=true)(xn2:W.isFn K (.ref f4)=true)(xp2:W.keepIn K (.ref C2)=true)
 (xna2_0:W.findIn K (.ref C2) "pieces"=some none)
 (xna2_1:W.findIn K (.ref C2) "rounds"=some none)
 (xna2_2:W.findIn K (.ref C2) "shuts"=some none)
 (xcg:W.specialIn K (.builtin "object.__class__") "__get__"=some (some (.builtin "getset_descriptor.__get__")))(xct:W.takesIn K (.builtin "object.__class__")=some true)
 (a0:W.nsIn K mainGlobals "_law_cell_at"=some (some (.ref f0)))(l0:K.lookup f0=some ⟨oc0,od0, .func (W.fnOf "_law_cell_at" "_law_cell_at" (aI dG) (aG dG) (aq dG) .none kV0 dc0 pm0 an0 cd0 ct0),sl0⟩)(c0:W.codeIn K cd0 "_law_cell_at"=true)(k0:W.keepIn K (.ref f0)=true)
 (a1:W.nsIn K mainGlobals "_law_mix"=some (some (.ref f1)))(l1:K.lookup f1=some ⟨oc1,od1, .func (W.fnOf "_law_mix" "_law_mix" (aI hZ) (aG hZ) (aq hZ) .none kV1 dc1 pm1 an1 cd1 ct1),sl1⟩)(c1:W.codeIn K cd1 "_law_mix"=true)(k1:W.keepIn K (.ref f1)=true)
 (a2:W.nsIn K mainGlobals "_law_bridges"=some (some (.ref f2)))(l2:K.lookup f2=some ⟨oc2,od2, .func (W.fnOf "_law_bridges" "_law_bridges" (aI dH) (aG dH) (aq dH) .none kV2 dc2 pm2 an2 cd2 ct2),sl2⟩)(c2:W.codeIn K cd2 "_law_bridges"=true)(k2:W.keepIn K (.ref f2)=true)
 (a3:W.nsIn K mainGlobals "_law_shuts"=some (some (.ref f3)))(l3:K.lookup f3=some ⟨oc3,od3, .func (W.fnOf "_law_shuts" "_law_shuts" (aI fI) (aG fI) (aq fI) .none kV3 dc3 pm3 an3 cd3 ct3),sl3⟩)(c3:W.codeIn K cd3 "_law_shuts"=true)(k3:W.keepIn K (.ref f3)=true)
 (l4:K.lookup f4=some ⟨oc4,od4, .func (W.fnOf "__init__" "Road.__init__" (aI fF) (aG fF) (aq fF) .none kV4 dc4 pm4 an4 cd4 ct4),sl4⟩)(c4:W.codeIn K cd4 "Road.__init__"=true)(k4:W.keepIn K (.ref f4)=true)
 (l5:K.lookup f5=some ⟨oc5,od5, .func (W.fnOf "__init__" "Open.__init__" (aI fE) (aG fE) (aq fE) .none kV5 dc5 pm5 an5 cd5 ct5),sl5⟩)(c5:W.codeIn K cd5 "Open.__init__"=true)(k5:W.keepIn K (.ref f5)=true)
 (l6:K.lookup f6=some ⟨oc6,od6, .func (W.fnOf "__init__" "Bridge.__init__" (aI dF) (aG dF) (aq dF) .none kV6 dc6 pm6 an6 cd6 ct6),sl6⟩)(c6:W.codeIn K cd6 "Bridge.__init__"=true)(k6:W.keepIn K (.ref f6)=true)
 (a7:W.nsIn K mainGlobals "_law_road"=some (some (.ref f7)))(l7:K.lookup f7=some ⟨oc7,od7, .func (W.fnOf "_law_road" "_law_road" (aI gq) (aG gq) (aq gq) .none kV7 dc7 pm7 an7 cd7 ct7),sl7⟩)(c7:W.codeIn K cd7 "_law_road"=true)(k7:W.keepIn K (.ref f7)=true)
 (a8:W.nsIn K mainGlobals "_law_shut_of"=some (some (.ref f8)))(l8:K.lookup f8=some ⟨oc8,od8, .func (W.fnOf "_law_shut_of" "_law_shut_of" (aI cV) (aG cV) (aq cV) .none kV8 dc8 pm8 an8 cd8 ct8),sl8⟩)(c8:W.codeIn K cd8 "_law_shut_of"=true)(k8:W.keepIn K (.ref f8)=true)
 (a9:W.nsIn K mainGlobals "_law_highs"=some (some (.ref f9)))(l9:K.lookup f9=some ⟨oc9,od9, .func (W.fnOf "_law_highs" "_law_highs" (aI ee) (aG ee) (aq ee) .none kV9 dc9 pm9 an9 cd9 ct9),sl9⟩)(c9:W.codeIn K cd9 "_law_highs"=true)(k9:W.keepIn K (.ref f9)=true)
 (a10:W.nsIn K mainGlobals "_law_allowed"=some (some (.ref f10)))(l10:K.lookup f10=some ⟨oc10,od10, .func (W.fnOf "_law_allowed" "_law_allowed" (aI dJ) (aG dJ) (aq dJ) .none kV10 dc10 pm10 an10 cd10 ct10),sl10⟩)(c10:W.codeIn K cd10 "_law_allowed"=true)(k10:W.keepIn K (.ref f10)=true)
 (a11:W.nsIn K mainGlobals "_law_offsets"=some (some (.ref f11)))(l11:K.lookup f11=some ⟨oc11,od11, .func (W.fnOf "_law_offsets" "_law_offsets" (aI dI) (aG dI) (aq dI) .none kV11 dc11 pm11 an11 cd11 ct11),sl11⟩)(c11:W.codeIn K cd11 "_law_offsets"=true)(k11:W.keepIn K (.ref f11)=true)
 (a12:W.nsIn K mainGlobals "_law_part"=some (some (.ref f12)))(l12:K.lookup f12=some ⟨oc12,od12, .func (W.fnOf "_law_part" "_law_part" (aI gr) (aG gr) (aq gr) .none kV12 dc12 pm12 an12 cd12 ct12),sl12⟩)(c12:W.codeIn K cd12 "_law_part"=true)(k12:W.keepIn K (.ref f12)=true)
 (a13:W.nsIn K mainGlobals "_law_own_spans"=some (some (.ref f13)))(l13:K.lookup f13=some ⟨oc13,od13, .func (W.fnOf "_law_own_spans" "_law_own_spans" (aI cL) (aG cL) (aq cL) .none kV13 dc13 pm13 an13 cd13 ct13),sl13⟩)(c13:W.codeIn K cd13 "_law_own_spans"=true)(k13:W.keepIn K (.ref f13)=true)
 (a14:W.nsIn K mainGlobals "_law_spans"=some (some (.ref f14)))(l14:K.lookup f14=some ⟨oc14,od14, .func (W.fnOf "_law_spans" "_law_spans" (aI fH) (aG fH) (aq fH) .none kV14 dc14 pm14 an14 cd14 ct14),sl14⟩)(c14:W.codeIn K cd14 "_law_spans"=true)(k14:W.keepIn K (.ref f14)=true)
 (a15:W.nsIn K mainGlobals "_law_placed"=some (some (.ref f15)))(l15:K.lookup f15=some ⟨oc15,od15, .func (W.fnOf "_law_placed" "_law_placed" (aI dz) (aG dz) (aq dz) .none kV15 dc15 pm15 an15 cd15 ct15),sl15⟩)(c15:W.codeIn K cd15 "_law_placed"=true)(k15:W.keepIn K (.ref f15)=true)
 (a16:W.nsIn K mainGlobals "_law_frac"=some (some (.ref f16)))(l16:K.lookup f16=some ⟨oc16,od16, .func (W.fnOf "_law_frac" "_law_frac" (aI gp) (aG gp) (aq gp) .none kV16 dc16 pm16 an16 cd16 ct16),sl16⟩)(c16:W.codeIn K cd16 "_law_frac"=true)(k16:W.keepIn K (.ref f16)=true)
 (a17:W.nsIn K mainGlobals "_law_wheels"=some (some (.ref f17)))(l17:K.lookup f17=some ⟨oc17,od17, .func (W.fnOf "_law_wheels" "_law_wheels" (aI eK) (aG eK) (aq eK) .none kV17 dc17 pm17 an17 cd17 ct17),sl17⟩)(c17:W.codeIn K cd17 "_law_wheels"=true)(k17:W.keepIn K (.ref f17)=true)
 (a18:W.nsIn K mainGlobals "_law_fitting"=some (some (.ref f18)))(l18:K.lookup f18=some ⟨oc18,od18, .func (W.fnOf "_law_fitting" "_law_fitting" (aI cU) (aG cU) (aq cU) .none kV18 dc18 pm18 an18 cd18 ct18),sl18⟩)(c18:W.codeIn K cd18 "_law_fitting"=true)(k18:W.keepIn K (.ref f18)=true)
 (a19:W.nsIn K mainGlobals "_law_close"=some (some (.ref f19)))(l19:K.lookup f19=some ⟨oc19,od19, .func (W.fnOf "_law_close" "_law_close" (aI eu) (aG eu) (aq eu) .none kV19 dc19 pm19 an19 cd19 ct19),sl19⟩)(c19:W.codeIn K cd19 "_law_close"=true)(k19:W.keepIn K (.ref f19)=true)
 (a20:W.nsIn K mainGlobals "offsets_of"=some (some (.ref f20)))(l20:K.lookup f20=some ⟨oc20,od20, .func (W.fnOf "offsets_of" "offsets_of" (aI eI) (aG eI) (aq eI) .none kV20 dc20 pm20 an20 cd20 ct20),sl20⟩)(c20:W.codeIn K cd20 "offsets_of"=true)(k20:W.keepIn K (.ref f20)=true)
 (a21:W.nsIn K mainGlobals "bridges_of"=some (some (.ref f21)))(l21:K.lookup f21=some ⟨oc21,od21, .func (W.fnOf "bridges_of" "bridges_of" (aI dw) (aG dw) (aq dw) .none kV21 dc21 pm21 an21 cd21 ct21),sl21⟩)(c21:W.codeIn K cd21 "bridges_of"=true)(k21:W.keepIn K (.ref f21)=true)
 (a22:W.nsIn K mainGlobals "bridge_of"=some (some (.ref f22)))(l22:K.lookup f22=some ⟨oc22,od22, .func (W.fnOf "bridge_of" "bridge_of" (aI d8) (aG d8) (aq d8) .none kV22 dc22 pm22 an22 cd22 ct22),sl22⟩)(c22:W.codeIn K cd22 "bridge_of"=true)(k22:W.keepIn K (.ref f22)=true)
 (a23:W.nsIn K mainGlobals "common_part"=some (some (.ref f23)))(l23:K.lookup f23=some ⟨oc23,od23, .func (W.fnOf "common_part" "common_part" (aI dE) (aG dE) (aq dE) .none kV23 dc23 pm23 an23 cd23 ct23),sl23⟩)(c23:W.codeIn K cd23 "common_part"=true)(k23:W.keepIn K (.ref f23)=true)
 (a24:W.nsIn K mainGlobals "made"=some (some (.ref f24)))(l24:K.lookup f24=some ⟨oc24,od24, .func (W.fnOf "made" "made" (aI mj) (aG mj) (aq mj) .none kV24 dc24 pm24 an24 cd24 ct24),sl24⟩)(c24:W.codeIn K cd24 "made"=true)(k24:W.keepIn K (.ref f24)=true)
 (a25:W.nsIn K mainGlobals "plus"=some (some (.ref f25)))(l25:K.lookup f25=some ⟨oc25,od25, .func (W.fnOf "plus" "plus" (aI ml) (aG ml) (aq ml) .none kV25 dc25 pm25 an25 cd25 ct25),sl25⟩)(c25:W.codeIn K cd25 "plus"=true)(k25:W.keepIn K (.ref f25)=true)
 (a26:W.nsIn K mainGlobals "driven"=some (some (.ref f26)))(l26:K.lookup f26=some ⟨oc26,od26, .func (W.fnOf "driven" "driven" (aI jc) (aG jc) (aq jc) .none kV26 dc26 pm26 an26 cd26 ct26),sl26⟩)(c26:W.codeIn K cd26 "driven"=true)(k26:W.keepIn K (.ref f26)=true)
 (a27:W.nsIn K mainGlobals "times_on"=some (some (.ref f27)))(l27:K.lookup f27=some ⟨oc27,od27, .func (W.fnOf "times_on" "times_on" (aI gj) (aG gj) (aq gj) .none kV27 dc27 pm27 an27 cd27 ct27),sl27⟩)(c27:W.codeIn K cd27 "times_on"=true)(k27:W.keepIn K (.ref f27)=true)
 (a28:W.nsIn K mainGlobals "stays_of"=some (some (.ref f28)))(l28:K.lookup f28=some ⟨oc28,od28, .func (W.fnOf "stays_of" "stays_of" (aI gk) (aG gk) (aq gk) .none kV28 dc28 pm28 an28 cd28 ct28),sl28⟩)(c28:W.codeIn K cd28 "stays_of"=true)(k28:W.keepIn K (.ref f28)=true)
 (a29:W.nsIn K mainGlobals "common_beneath"=some (some (.ref f29)))(l29:K.lookup f29=some ⟨oc29,od29, .func (W.fnOf "common_beneath" "common_beneath" (aI cx) (aG cx) (aq cx) .none kV29 dc29 pm29 an29 cd29 ct29),sl29⟩)(c29:W.codeIn K cd29 "common_beneath"=true)(k29:W.keepIn K (.ref f29)=true)
 (a30:W.nsIn K mainGlobals "parts_in"=some (some (.ref f30)))(l30:K.lookup f30=some ⟨oc30,od30, .func (W.fnOf "parts_in" "parts_in" (aI gi) (aG gi) (aq gi) .none kV30 dc30 pm30 an30 cd30 ct30),sl30⟩)(c30:W.codeIn K cd30 "parts_in"=true)(k30:W.keepIn K (.ref f30)=true)
 (a31:W.nsIn K mainGlobals "whole_stays"=some (some (.ref f31)))(l31:K.lookup f31=some ⟨oc31,od31, .func (W.fnOf "whole_stays" "whole_stays" (aI cT) (aG cT) (aq cT) .none kV31 dc31 pm31 an31 cd31 ct31),sl31⟩)(c31:W.codeIn K cd31 "whole_stays"=true)(k31:W.keepIn K (.ref f31)=true)
 (a32:W.nsIn K mainGlobals "crowded_spans"=some (some (.ref f32)))(l32:K.lookup f32=some ⟨oc32,od32, .func (W.fnOf "crowded_spans" "crowded_spans" (aI cJ) (aG cJ) (aq cJ) .none kV32 dc32 pm32 an32 cd32 ct32),sl32⟩)(c32:W.codeIn K cd32 "crowded_spans"=true)(k32:W.keepIn K (.ref f32)=true)
 (a33:W.nsIn K mainGlobals "steps_of"=some (some (.ref f33)))(l33:K.lookup f33=some ⟨oc33,od33, .func (W.fnOf "steps_of" "steps_of" (aI gl) (aG gl) (aq gl) .none kV33 dc33 pm33 an33 cd33 ct33),sl33⟩)(c33:W.codeIn K cd33 "steps_of"=true)(k33:W.keepIn K (.ref f33)=true)
 (a34:W.nsIn K mainGlobals "shut_spans"=some (some (.ref f34)))(l34:K.lookup f34=some ⟨oc34,od34, .func (W.fnOf "shut_spans" "shut_spans" (aI dy) (aG dy) (aq dy) .none kV34 dc34 pm34 an34 cd34 ct34),sl34⟩)(c34:W.codeIn K cd34 "shut_spans"=true)(k34:W.keepIn K (.ref f34)=true)
 (a35:W.nsIn K mainGlobals "least_outside"=some (some (.ref f35)))(l35:K.lookup f35=some ⟨oc35,od35, .func (W.fnOf "least_outside" "least_outside" (aI cK) (aG cK) (aq cK) .none kV35 dc35 pm35 an35 cd35 ct35),sl35⟩)(c35:W.codeIn K cd35 "least_outside"=true)(k35:W.keepIn K (.ref f35)=true)
 (a36:W.nsIn K mainGlobals "shuts_of"=some (some (.ref f36)))(l36:K.lookup f36=some ⟨oc36,od36, .func (W.fnOf "shuts_of" "shuts_of" (aI fA) (aG fA) (aq fA) .none kV36 dc36 pm36 an36 cd36 ct36),sl36⟩)(c36:W.codeIn K cd36 "shuts_of"=true)(k36:W.keepIn K (.ref f36)=true)
 (a37:W.nsIn K mainGlobals "whole"=some (some (.ref f37)))(l37:K.lookup f37=some ⟨oc37,od37, .func (W.fnOf "whole" "whole" (aI kh) (aG kh) (aq kh) .none kV37 dc37 pm37 an37 cd37 ct37),sl37⟩)(c37:W.codeIn K cd37 "whole"=true)(k37:W.keepIn K (.ref f37)=true)
 (a38:W.nsIn K mainGlobals "entry_at"=some (some (.ref f38)))(l38:K.lookup f38=some ⟨oc38,od38, .func (W.fnOf "entry_at" "entry_at" (aI d9) (aG d9) (aq d9) .none kV38 dc38 pm38 an38 cd38 ct38),sl38⟩)(c38:W.codeIn K cd38 "entry_at"=true)(k38:W.keepIn K (.ref f38)=true)
 (a39:W.nsIn K mainGlobals "_law_moved"=some (some (.ref f39)))(l39:K.lookup f39=some ⟨oc39,od39, .func (W.fnOf "_law_moved" "_law_moved" (aI eA) (aG eA) (aq eA) .none kV39 dc39 pm39 an39 cd39 ct39),sl39⟩)(c39:W.codeIn K cd39 "_law_moved"=true)(k39:W.keepIn K (.ref f39)=true)
 (a40:W.nsIn K mainGlobals "_law_none_sooner"=some (some (.ref f40)))(l40:K.lookup f40=some ⟨oc40,od40, .func (W.fnOf "_law_none_sooner" "_law_none_sooner" (aI bq) (aG bq) (aq bq) .none kV40 dc40 pm40 an40 cd40 ct40),sl40⟩)(c40:W.codeIn K cd40 "_law_none_sooner"=true)(k40:W.keepIn K (.ref f40)=true)
 (a41:W.nsIn K mainGlobals "_law_same"=some (some (.ref f41)))(l41:K.lookup f41=some ⟨oc41,od41, .func (W.fnOf "_law_same" "_law_same" (aI gn) (aG gn) (aq gn) .none kV41 dc41 pm41 an41 cd41 ct41),sl41⟩)(c41:W.codeIn K cd41 "_law_same"=true)(k41:W.keepIn K (.ref f41)=true)
 (a42:W.nsIn K mainGlobals "law"=some (some (.ref f42)))(l42:K.lookup f42=some ⟨oc42,od42, .func (W.fnOf "law" "law" (aI kH) (aG kH) (aq kH) .none kV42 dc42 pm42 an42 cd42 ct42),sl42⟩)(c42:W.codeIn K cd42 "law"=true)(k42:W.keepIn K (.ref f42)=true)
 (zz0:W.nsIn K mainGlobals "len"=some none)
 (zz1:W.nsIn K mainGlobals "range"=some none)
 (zz2:W.nsIn K mainGlobals "list"=some none)
 (zz3:W.nsIn K mainGlobals "sum"=some none)
 (zz4:W.nsIn K mainGlobals "zip"=some none)
 (zz5:W.nsIn K mainGlobals "abs"=some none)
 (zz6:W.nsIn K mainGlobals "isinstance"=some none)
 (zz7:W.nsIn K mainGlobals "sorted"=some none)
 (zz8:W.nsIn K mainGlobals "int"=some none)
 (zz9:W.nsIn K mainGlobals "str"=some none)
 (zz10:W.nsIn K mainGlobals "tuple"=some none)
 (zz11:W.nsIn K mainGlobals "bool"=some none)
 :
 ∃fd:FuncData,(∀(s:Shared) (v:Value),BindsTo s fd ⟨[v],[]⟩ [("_law_script",v)])∧∀base:Heap,K.In base→base.Ns mainGlobals mg→FnOk l.prog w K mg base CX0 13 fa fd ["_law_script"] (qD K):=by
 have e:=hfa.symm.trans (W.mg_of X G a42)
 cases e
 have F0:=aT (st:=dG) l0 c0 k0
 have F1:=aT (st:=hZ) l1 c1 k1
 have F2:=aT (st:=dH) l2 c2 k2
 have F3:=aT (st:=fI) l3 c3 k3
 have F4:=aT (st:=fF) l4 c4 k4
 have F5:=aT (st:=fE) l5 c5 k5
 have F6:=aT (st:=dF) l6 c6 k6
 have F7:=aT (st:=gq) l7 c7 k7
 have F8:=aT (st:=cV) l8 c8 k8
 have F9:=aT (st:=ee) l9 c9 k9
 have F10:=aT (st:=dJ) l10 c10 k10
 have F11:=aT (st:=dI) l11 c11 k11
 have F12:=aT (st:=gr) l12 c12 k12
 have F13:=aT (st:=cL) l13 c13 k13
 have F14:=aT (st:=fH) l14 c14 k14
 have F15:=aT (st:=dz) l15 c15 k15
 have F16:=aT (st:=gp) l16 c16 k16
 have F17:=aT (st:=eK) l17 c17 k17
 have F18:=aT (st:=cU) l18 c18 k18
 have F19:=aT (st:=eu) l19 c19 k19
 have F20:=aT (st:=eI) l20 c20 k20
 have F21:=aT (st:=dw) l21 c21 k21
 have F22:=aT (st:=d8) l22 c22 k22
 have F23:=aT (st:=dE) l23 c23 k23
 have F24:=aT (st:=mj) l24 c24 k24
 have F25:=aT (st:=ml) l25 c25 k25
 have F26:=aT (st:=jc) l26 c26 k26
 have F27:=aT (st:=gj) l27 c27 k27
 have F28:=aT (st:=gk) l28 c28 k28
 have F29:=aT (st:=cx) l29 c29 k29
 have F30:=aT (st:=gi) l30 c30 k30
 have F31:=aT (st:=cT) l31 c31 k31
 have F32:=aT (st:=cJ) l32 c32 k32
 have F33:=aT (st:=gl) l33 c33 k33
 have F34:=aT (st:=dy) l34 c34 k34
 have F35:=aT (st:=cK) l35 c35 k35
 have F36:=aT (st:=fA) l36 c36 k36
 have F37:=aT (st:=kh) l37 c37 k37
 have F38:=aT (st:=d9) l38 c38 k38
 have F39:=aT (st:=eA) l39 c39 k39
 have F40:=aT (st:=bq) l40 c40 k40
 have F41:=aT (st:=gn) l41 c41 k41
 have F42:=aT (st:=kH) l42 c42 k42
 have z_len:=W.mg_none_of X G zz0
 have z_range:=W.mg_none_of X G zz1
 have z_list:=W.mg_none_of X G zz2
 have z_sum:=W.mg_none_of X G zz3
 have z_zip:=W.mg_none_of X G zz4
 have z_abs:=W.mg_none_of X G zz5
 have z_isinstance:=W.mg_none_of X G zz6
 have z_sorted:=W.mg_none_of X G zz7
 have z_int:=W.mg_none_of X G zz8
 have z_str:=W.mg_none_of X G zz9
 have z_tuple:=W.mg_none_of X G zz10
 have z_bool:=W.mg_none_of X G zz11
 have o0:KObj K C0 xc0:=pC xl0 xo0
 have n_Open:mg "Open"=some (.ref (clA K "Open")):=by rw[lR x0];exact W.mg_of X G x0
 have o1:KObj K C1 xc1:=pC xl1 xo1
 have n_Bridge:mg "Bridge"=some (.ref (clA K "Bridge")):=by rw[lR x1];exact W.mg_of X G x1
 have o2:KObj K C2 xc2:=pC xl2 xo2
 have n_Road:mg "Road"=some (.ref (clA K "Road")):=by rw[lR x2];exact W.mg_of X G x2
 have pts:Pts K kNames [C0,C1,C2]:= .cons x0 o0 (.cons x1 o1 (.cons x2 o2 (.nil)))
 have d_Open:PKd K kNames (clA K "Open") ["Open"] ["length"]:=tJ x0 xl0 xo0 pts xk0 xa0 xb0 xg0 xe0 xf0 xcg xct (gZ xna0_0 tG)
 have d_Bridge:PKd K kNames (clA K "Bridge") ["Bridge"] ["name","length","bears","wide","most"]:=tJ x1 xl1 xo1 pts xk1 xa1 xb1 xg1 xe1 xf1 xcg xct (gZ xna1_0 (gZ xna1_1 (gZ xna1_2 (gZ xna1_3 (gZ xna1_4 tG)))))
 have d_Road:PKd K kNames (clA K "Road") ["Road"] ["pieces","rounds","shuts"]:=tJ x2 xl2 xo2 pts xk2 xa2 xb2 xg2 xe2 xf2 xcg xct (gZ xna2_0 (gZ xna2_1 (gZ xna2_2 tG)))
 refine⟨W.fnOf "law" "law" (aI kH) (aG kH) (aq kH) .none kV42 dc42 pm42 an42 cd42 ct42,fun s v=> .of_eq rfl,fun base _ _=> ?_⟩
 have b0:=F0.binds (ps:=["_law_script","_law_k"]) fun _ _ _ _ _ _ us hl=>by obtain⟨_,_,rfl⟩:=us2 hl;rfl
 have g_law_cell_at:Got l.prog w K mg base 1 "_law_cell_at" ["_law_script","_law_k"] (ip K):=⟨⟨_,_,nQ F0 z_len,b0,k0,W.mg_of X G a0⟩⟩
 have b1:=F1.binds (ps:=["_law_cell","_law_factor"]) fun _ _ _ _ _ _ us hl=>by obtain⟨_,_,rfl⟩:=us2 hl;rfl
 have g_law_mix:Got l.prog w K mg base 1 "_law_mix" ["_law_cell","_law_factor"] (eD K):=⟨⟨_,_,uq F1,b1,k1,W.mg_of X G a1⟩⟩
 have b2:=F2.binds (ps:=["_law_cell","_law_count"]) fun _ _ _ _ _ _ us hl=>by obtain⟨_,_,rfl⟩:=us2 hl;rfl
 have g_law_bridges:Got l.prog w K mg base 2 "_law_bridges" ["_law_cell","_law_count"] (iq K):=⟨⟨_,_,nR F2 g_law_mix z_range,b2,k2,W.mg_of X G a2⟩⟩
 have b3:=F3.binds (ps:=["_law_cell","_law_bridges_here"]) fun _ _ _ _ _ _ us hl=>by obtain⟨_,_,rfl⟩:=us2 hl;rfl
 have g_law_shuts:Got l.prog w K mg base 2 "_law_shuts" ["_law_cell","_law_bridges_here"] (jw K):=⟨⟨_,_,qE F3 g_law_mix z_range z_len,b3,k3,W.mg_of X G a3⟩⟩
 have b4:=F4.binds (ps:=["self","pieces","rounds","shuts"]) fun _ _ _ _ _ _ us hl=>by obtain⟨_,_,_,_,rfl⟩:=us4 hl;rfl
 have m_Road:GotP l.prog w K mg base 1 "Road" ["self","pieces","rounds","shuts"] (jx K):=⟨⟨_,_,wL x2 xm2 xi2 xn2 xp2,qF F4 z_list,b4,n_Road⟩⟩
 have b5:=F5.binds (ps:=["self","length"]) fun _ _ _ _ _ _ us hl=>by obtain⟨_,_,rfl⟩:=us2 hl;rfl
 have m_Open:GotP l.prog w K mg base 1 "Open" ["self","length"] (jy K):=⟨⟨_,_,wL x0 xm0 xi0 xn0 xp0,qG F5,b5,n_Open⟩⟩
 have b6:=F6.binds (ps:=["self","name","length","bears","wide","most"]) fun _ _ _ _ _ _ us hl=>by obtain⟨_,_,_,_,_,_,rfl⟩:=us6 hl;rfl
 have m_Bridge:GotP l.prog w K mg base 1 "Bridge" ["self","name","length","bears","wide","most"] (ir K):=⟨⟨_,_,wL x1 xm1 xi1 xn1 xp1,nS F6,b6,n_Bridge⟩⟩
 have b7:=F7.binds (ps:=["_law_bridges_here","_law_rounds","_law_shuts_here"]) fun _ _ _ _ _ _ us hl=>by obtain⟨_,_,_,rfl⟩:=us3 hl;rfl
 have g_law_road:Got l.prog w K mg base 3 "_law_road" ["_law_bridges_here","_law_rounds","_law_shuts_here"] (jV K):=⟨⟨_,_,sE F7 m_Road d_Road m_Open d_Open m_Bridge d_Bridge z_len,b7,k7,W.mg_of X G a7⟩⟩
 have b8:=F8.binds (ps:=["_law_shuts_here","_law_name"]) fun _ _ _ _ _ _ us hl=>by obtain⟨_,_,rfl⟩:=us2 hl;rfl
 have g_law_shut_of:Got l.prog w K mg base 1 "_law_shut_of" ["_law_shuts_here","_law_name"] (fY K):=⟨⟨_,_,nT F8,b8,k8,W.mg_of X G a8⟩⟩
 have b9:=F9.binds (ps:=["_law_spans_here","_law_moment"]) fun _ _ _ _ _ _ us hl=>by obtain⟨_,_,rfl⟩:=us2 hl;rfl
 have g_law_highs:Got l.prog w K mg base 1 "_law_highs" ["_law_spans_here","_law_moment"] (jA K):=⟨⟨_,_,qH F9 z_sum,b9,k9,W.mg_of X G a9⟩⟩
 have b10:=F10.binds (ps:=["_law_bridge","_law_shuts_here","_law_spans_here","_law_own"]) fun _ _ _ _ _ _ us hl=>by obtain⟨_,_,_,_,rfl⟩:=us4 hl;rfl
 have g_law_allowed:Got l.prog w K mg base 2 "_law_allowed" ["_law_bridge","_law_shuts_here","_law_spans_here","_law_own"] (eE K):=⟨⟨_,_,nU F10 g_law_shut_of g_law_highs,b10,k10,W.mg_of X G a10⟩⟩
 have b11:=F11.binds (ps:=["_law_wheels_here"]) fun _ _ _ _ _ _ us hl=>by obtain⟨_,rfl⟩:=us1 hl;rfl
 have g_law_offsets:Got l.prog w K mg base 1 "_law_offsets" ["_law_wheels_here"] (iu K):=⟨⟨_,_,nV F11,b11,k11,W.mg_of X G a11⟩⟩
 have b12:=F12.binds (ps:=["_law_time"]) fun _ _ _ _ _ _ us hl=>by obtain⟨_,rfl⟩:=us1 hl;rfl
 have g_law_part:Got l.prog w K mg base 1 "_law_part" ["_law_time"] (iJ K):=⟨⟨_,_,sF F12,b12,k12,W.mg_of X G a12⟩⟩
 have b13:=F13.binds (ps:=["_law_bridge","_law_crossing"]) fun _ _ _ _ _ _ us hl=>by obtain⟨_,_,rfl⟩:=us2 hl;rfl
 have g_law_own_spans:Got l.prog w K mg base 2 "_law_own_spans" ["_law_bridge","_law_crossing"] (dj K):=⟨⟨_,_,my F13 g_law_offsets g_law_part z_zip,b13,k13,W.mg_of X G a13⟩⟩
 have b14:=F14.binds (ps:=["_law_bridge","_law_crossings"]) fun _ _ _ _ _ _ us hl=>by obtain⟨_,_,rfl⟩:=us2 hl;rfl
 have g_law_spans:Got l.prog w K mg base 3 "_law_spans" ["_law_bridge","_law_crossings"] (g6 K):=⟨⟨_,_,qI F14 g_law_own_spans,b14,k14,W.mg_of X G a14⟩⟩
 have b15:=F15.binds (ps:=["_law_bridges_here","_law_shuts_here","_law_crossings"]) fun _ _ _ _ _ _ us hl=>by obtain⟨_,_,_,rfl⟩:=us3 hl;rfl
 have g_law_placed:Got l.prog w K mg base 4 "_law_placed" ["_law_bridges_here","_law_shuts_here","_law_crossings"] (iX K):=⟨⟨_,_,oj F15 g_law_allowed g_law_spans g_law_own_spans,b15,k15,W.mg_of X G a15⟩⟩
 have b16:=F16.binds (ps:=["_law_above","_law_beneath"]) fun _ _ _ _ _ _ us hl=>by obtain⟨_,_,rfl⟩:=us2 hl;rfl
 have g_law_frac:Got l.prog w K mg base 1 "_law_frac" ["_law_above","_law_beneath"] (iK K):=⟨⟨_,_,sG F16 z_abs,b16,k16,W.mg_of X G a16⟩⟩
 have b17:=F17.binds (ps:=["_law_cell","_law_bears"]) fun _ _ _ _ _ _ us hl=>by obtain⟨_,_,rfl⟩:=us2 hl;rfl
 have g_law_wheels:Got l.prog w K mg base 2 "_law_wheels" ["_law_cell","_law_bears"] (iY K):=⟨⟨_,_,om F17 g_law_mix z_range,b17,k17,W.mg_of X G a17⟩⟩
 have b18:=F18.binds (ps:=["_law_cell","_law_bridge"]) fun _ _ _ _ _ _ us hl=>by obtain⟨_,_,rfl⟩:=us2 hl;rfl
 have g_law_fitting:Got l.prog w K mg base 3 "_law_fitting" ["_law_cell","_law_bridge"] (ix K):=⟨⟨_,_,nW F18 g_law_wheels g_law_mix,b18,k18,W.mg_of X G a18⟩⟩
 have b19:=F19.binds (ps:=["_law_cells","_law_bridges_here","_law_first"]) fun _ _ _ _ _ _ us hl=>by obtain⟨_,_,_,rfl⟩:=us3 hl;rfl
 have g_law_close:Got l.prog w K mg base 4 "_law_close" ["_law_cells","_law_bridges_here","_law_first"] (jB K):=⟨⟨_,_,qJ F19 g_law_mix g_law_frac g_law_fitting z_list z_len,b19,k19,W.mg_of X G a19⟩⟩
 have b20:=F20.binds (ps:=["wheels"]) fun _ _ _ _ _ _ us hl=>by obtain⟨_,rfl⟩:=us1 hl;rfl
 have g_offsets_of:Got l.prog w K mg base 1 "offsets_of" ["wheels"] (iZ K):=⟨⟨_,_,oo F20,b20,k20,W.mg_of X G a20⟩⟩
 have b21:=F21.binds (ps:=["road"]) fun _ _ _ _ _ _ us hl=>by obtain⟨_,rfl⟩:=us1 hl;rfl
 have g_bridges_of:Got l.prog w K mg base 1 "bridges_of" ["road"] (i4 K):=⟨⟨_,_,oq F21 d_Bridge n_Bridge z_isinstance,b21,k21,W.mg_of X G a21⟩⟩
 have b22:=F22.binds (ps:=["road","name"]) fun _ _ _ _ _ _ us hl=>by obtain⟨_,_,rfl⟩:=us2 hl;rfl
 have g_bridge_of:Got l.prog w K mg base 2 "bridge_of" ["road","name"] (hI K):=⟨⟨_,_,qK F22 g_bridges_of,b22,k22,W.mg_of X G a22⟩⟩
 have b23:=F23.binds (ps:=["one","other"]) fun _ _ _ _ _ _ us hl=>by obtain⟨_,_,rfl⟩:=us2 hl;rfl
 have g_common_part:Got l.prog w K mg base 1 "common_part" ["one","other"] (ga K):=⟨⟨_,_,nX F23 z_abs,b23,k23,W.mg_of X G a23⟩⟩
 have b24:=F24.binds (ps:=["above","beneath"]) fun _ _ _ _ _ _ us hl=>by obtain⟨_,_,rfl⟩:=us2 hl;rfl
 have g_made:Got l.prog w K mg base 2 "made" ["above","beneath"] (lD K):=⟨⟨_,_,zQ F24 g_common_part,b24,k24,W.mg_of X G a24⟩⟩
 have b25:=F25.binds (ps:=["one","other"]) fun _ _ _ _ _ _ us hl=>by obtain⟨_,_,rfl⟩:=us2 hl;rfl
 have g_plus:Got l.prog w K mg base 3 "plus" ["one","other"] (qh K):=⟨⟨_,_,zR F25 g_made,b25,k25,W.mg_of X G a25⟩⟩
 have b26:=F26.binds (ps:=["moment","distance","speed"]) fun _ _ _ _ _ _ us hl=>by obtain⟨_,_,_,rfl⟩:=us3 hl;rfl
 have g_driven:Got l.prog w K mg base 4 "driven" ["moment","distance","speed"] (mt K):=⟨⟨_,_,we F26 g_plus g_made,b26,k26,W.mg_of X G a26⟩⟩
 have b27:=F27.binds (ps:=["road","crossing"]) fun _ _ _ _ _ _ us hl=>by obtain⟨_,_,rfl⟩:=us2 hl;rfl
 have g_times_on:Got l.prog w K mg base 5 "times_on" ["road","crossing"] (jX K):=⟨⟨_,_,sH F27 g_offsets_of g_bridge_of g_driven,b27,k27,W.mg_of X G a27⟩⟩
 have b28:=F28.binds (ps:=["road","crossings","name"]) fun _ _ _ _ _ _ us hl=>by obtain⟨_,_,_,rfl⟩:=us3 hl;rfl
 have g_stays_of:Got l.prog w K mg base 6 "stays_of" ["road","crossings","name"] (jY K):=⟨⟨_,_,sJ F28 g_times_on z_zip,b28,k28,W.mg_of X G a28⟩⟩
 have b29:=F29.binds (ps:=["some"]) fun _ _ _ _ _ _ us hl=>by obtain⟨_,rfl⟩:=us1 hl;rfl
 have g_common_beneath:Got l.prog w K mg base 2 "common_beneath" ["some"] (gb K):=⟨⟨_,_,lK F29 g_common_part,b29,k29,W.mg_of X G a29⟩⟩
 have b30:=F30.binds (ps:=["fraction","beneath"]) fun _ _ _ _ _ _ us hl=>by obtain⟨_,_,rfl⟩:=us2 hl;rfl
 have g_parts_in:Got l.prog w K mg base 1 "parts_in" ["fraction","beneath"] (iL K):=⟨⟨_,_,sK F30,b30,k30,W.mg_of X G a30⟩⟩
 have b31:=F31.binds (ps:=["stays","unit"]) fun _ _ _ _ _ _ us hl=>by obtain⟨_,_,rfl⟩:=us2 hl;rfl
 have g_whole_stays:Got l.prog w K mg base 2 "whole_stays" ["stays","unit"] (iy K):=⟨⟨_,_,nY F31 g_parts_in,b31,k31,W.mg_of X G a31⟩⟩
 have b32:=F32.binds (ps:=["others","own","bears"]) fun _ _ _ _ _ _ us hl=>by obtain⟨_,_,_,rfl⟩:=us3 hl;rfl
 have g_crowded_spans:Got l.prog w K mg base 1 "crowded_spans" ["others","own","bears"] (gE K):=⟨⟨_,_,mz F32,b32,k32,W.mg_of X G a32⟩⟩
 have b33:=F33.binds (ps:=["stays"]) fun _ _ _ _ _ _ us hl=>by obtain⟨_,rfl⟩:=us1 hl;rfl
 have g_steps_of:Got l.prog w K mg base 1 "steps_of" ["stays"] (jZ K):=⟨⟨_,_,sL F33 z_sorted z_zip,b33,k33,W.mg_of X G a33⟩⟩
 have b34:=F34.binds (ps:=["shuts","own","unit"]) fun _ _ _ _ _ _ us hl=>by obtain⟨_,_,_,rfl⟩:=us3 hl;rfl
 have g_shut_spans:Got l.prog w K mg base 1 "shut_spans" ["shuts","own","unit"] (i5 K):=⟨⟨_,_,ot F34,b34,k34,W.mg_of X G a34⟩⟩
 have b35:=F35.binds (ps:=["spans","moment"]) fun _ _ _ _ _ _ us hl=>by obtain⟨_,_,rfl⟩:=us2 hl;rfl
 have g_least_outside:Got l.prog w K mg base 1 "least_outside" ["spans","moment"] (gG K):=⟨⟨_,_,mB F35 z_sorted,b35,k35,W.mg_of X G a35⟩⟩
 have b36:=F36.binds (ps:=["road","name"]) fun _ _ _ _ _ _ us hl=>by obtain⟨_,_,rfl⟩:=us2 hl;rfl
 have g_shuts_of:Got l.prog w K mg base 1 "shuts_of" ["road","name"] (j0 K):=⟨⟨_,_,sM F36,b36,k36,W.mg_of X G a36⟩⟩
 have b37:=F37.binds (ps:=["number"]) fun _ _ _ _ _ _ us hl=>by obtain⟨_,rfl⟩:=us1 hl;rfl
 have g_whole:Got l.prog w K mg base 1 "whole" ["number"] (nF K):=⟨⟨_,_,yi F37,b37,k37,W.mg_of X G a37⟩⟩
 have b38:=F38.binds (ps:=["road","crossings","name","speed","wheels","coming"]) fun _ _ _ _ _ _ us hl=>by obtain⟨_,_,_,_,_,_,rfl⟩:=us6 hl;rfl
 have g_entry_at:Got l.prog w K mg base 7 "entry_at" ["road","crossings","name","speed","wheels","coming"] (j3 K):=⟨⟨_,_,sN F38 g_stays_of g_common_beneath g_whole_stays g_crowded_spans g_made g_steps_of g_shut_spans g_least_outside g_bridge_of g_shuts_of g_parts_in g_whole,b38,k38,W.mg_of X G a38⟩⟩
 have b39:=F39.binds (ps:=["_law_own","_law_by"]) fun _ _ _ _ _ _ us hl=>by obtain⟨_,_,rfl⟩:=us2 hl;rfl
 have g_law_moved:Got l.prog w K mg base 1 "_law_moved" ["_law_own","_law_by"] (jE K):=⟨⟨_,_,qL F39,b39,k39,W.mg_of X G a39⟩⟩
 have b40:=F40.binds (ps:=["_law_bridge","_law_shuts_here","_law_spans_here","_law_own","_law_coming"]) fun _ _ _ _ _ _ us hl=>by obtain⟨_,_,_,_,_,rfl⟩:=us5 hl;rfl
 have g_law_none_sooner:Got l.prog w K mg base 3 "_law_none_sooner" ["_law_bridge","_law_shuts_here","_law_spans_here","_law_own","_law_coming"] (fD K):=⟨⟨_,_,kP F40 g_law_moved g_law_allowed g_law_shut_of,b40,k40,W.mg_of X G a40⟩⟩
 have b41:=F41.binds (ps:=["_law_found","_law_due"]) fun _ _ _ _ _ _ us hl=>by obtain⟨_,_,rfl⟩:=us2 hl;rfl
 have g_law_same:=jf (P:=l.prog) (w:=w) (base:=base) F41 b41 k41 (W.mg_of X G a41) z_bool z_int z_isinstance z_len z_list z_range z_str z_tuple 12
 exact Co (P:=l.prog) (w:=w) (base:=base) F42 g_law_cell_at g_law_bridges g_law_shuts g_law_road g_law_mix g_law_placed g_law_close g_entry_at g_law_own_spans g_law_spans g_law_allowed g_law_none_sooner g_law_same g_law_part g_law_frac z_range z_isinstance z_tuple z_len
theorem walk{l:W.OpenLaw}{q:Program}{loose:List Str}{XP:(Str→Option Value)→Heap→Prop}{YP:World→Heap→Prop}{d:DefRec}{K:Params→W.Frag}(hn:l.most=some 63)(hdf:d.params.defaults=[])
 (hY:∀(w:World) (h:Heap),YP w h→(K w.params).In h)
 (F:∀(w:World) (mg:Str→Option Value) (fa:Addr) (h:Heap),(K w.params).In h→h.Ns mainGlobals mg→mg d.name=some (.ref fa)→
  ∃fd:FuncData,(∀(s:Shared) (u:Value),BindsTo s fd ⟨[u],[]⟩ [("_law_script",u)])∧∀base:Heap,(K w.params).In base→base.Ns mainGlobals mg→FnOk l.prog w (K w.params) mg base CX0 13 fa fd ["_law_script"] (qD (K w.params))):
 W.WalkO q loose XP YP l.row.toRowW d [] (fun f vs=>PySem.call f vs):=
 L2.walk_of (n:=63) (k:=13) (x:="_law_script") (CX:=fun _=>CX0) (sp:=fun w=>qD (K w.params)) hn (by decide) hdf ⟨rfl,by decide,by decide⟩ hY F (fun _ _ a ns hl _ hS=>⟨a,ns,rfl,hS,hl,fun _=>rfl⟩) fun _ _ _ _ _ z=>z
end Kl
namespace PySem.W.Fast
theorem tw4467380231636104833:True:=⟨⟩
theorem tw8362051420826556211:True:=⟨⟩
theorem tw8730474594958372672:True:=⟨⟩
theorem tw5859085874229606770:True:=⟨⟩
theorem tw3776472469093377164:True:=⟨⟩
theorem tw14490897617429464589:True:=⟨⟩
theorem tw17932328289221464105:True:=⟨⟩
theorem tw7908599801974979821:True:=⟨⟩
theorem tw3203991712029441924:True:=⟨⟩
theorem tw8426288790901844705:True:=⟨⟩
theorem tw17170599968953868116:True:=⟨⟩
theorem tw14336839372200979541:True:=⟨⟩
theorem tw14142269337948518979:True:=⟨⟩
theorem tw12337275848691688973:True:=⟨⟩
theorem tw8404561956066068664:True:=⟨⟩
theorem tw16911006854541845532:True:=⟨⟩
theorem tw18089663637396371046:True:=⟨⟩
theorem tw16373241923948428815:True:=⟨⟩
theorem tw6898299611179331978:True:=⟨⟩
theorem tw1777973260920069236:True:=⟨⟩
theorem tw13878639201396874567:True:=⟨⟩
theorem tw1184702701857179598:True:=⟨⟩
end PySem.W.Fast
open PySem PySem.W PyProof.Rows
set_option maxRecDepth 100000 in
set_option maxHeartbeats 0 in
theorem PySem.Challenge.cw_ballastway_k28_the_least_entry_holds : PySem.Challenge.rw_ballastway_k28_the_least_entry.Holds := by
 w_on; o_law; k_head; (case hw => w_witness2)
 k_fill
 refine Kl.walk (l := PySem.Challenge.rw_ballastway_k28_the_least_entry) rfl rfl (fun w h Y => PySem.W.kIn_of Y) ?F
 case F =>
  intro w mg fa h KX G hmg
  refine' Kl.all_mk KX G hmg ?x0 ?xl0 ?xi0 ?x1 ?xl1 ?xi1 ?x2 ?xl2 ?xi2 ?xo0 ?xk0 ?xa0 ?xb0 ?xg0 ?xe0 ?xf0 ?xm0 ?xn0 ?xp0 ?xna0_0 ?xo1 ?xk1 ?xa1 ?xb1 ?xg1 ?xe1 ?xf1 ?xm1 ?xn1 ?xp1 ?xna1_0 ?xna1_1 ?xna1_2 ?xna1_3 ?xna1_4 ?xo2 ?xk2 ?xa2 ?xb2 ?xg2 ?xe2 ?xf2 ?xm2 ?xn2 ?xp2 ?xna2_0 ?xna2_1 ?xna2_2 ?xcg ?xct ?a0 ?l0 ?c0 ?k0 ?a1 ?l1 ?c1 ?k1 ?a2 ?l2 ?c2 ?k2 ?a3 ?l3 ?c3 ?k3 ?l4 ?c4 ?k4 ?l5 ?c5 ?k5 ?l6 ?c6 ?k6 ?a7 ?l7 ?c7 ?k7 ?a8 ?l8 ?c8 ?k8 ?a9 ?l9 ?c9 ?k9 ?a10 ?l10 ?c10 ?k10 ?a11 ?l11 ?c11 ?k11 ?a12 ?l12 ?c12 ?k12 ?a13 ?l13 ?c13 ?k13 ?a14 ?l14 ?c14 ?k14 ?a15 ?l15 ?c15 ?k15 ?a16 ?l16 ?c16 ?k16 ?a17 ?l17 ?c17 ?k17 ?a18 ?l18 ?c18 ?k18 ?a19 ?l19 ?c19 ?k19 ?a20 ?l20 ?c20 ?k20 ?a21 ?l21 ?c21 ?k21 ?a22 ?l22 ?c22 ?k22 ?a23 ?l23 ?c23 ?k23 ?a24 ?l24 ?c24 ?k24 ?a25 ?l25 ?c25 ?k25 ?a26 ?l26 ?c26 ?k26 ?a27 ?l27 ?c27 ?k27 ?a28 ?l28 ?c28 ?k28 ?a29 ?l29 ?c29 ?k29 ?a30 ?l30 ?c30 ?k30 ?a31 ?l31 ?c31 ?k31 ?a32 ?l32 ?c32 ?k32 ?a33 ?l33 ?c33 ?k33 ?a34 ?l34 ?c34 ?k34 ?a35 ?l35 ?c35 ?k35 ?a36 ?l36 ?c36 ?k36 ?a37 ?l37 ?c37 ?k37 ?a38 ?l38 ?c38 ?k38 ?a39 ?l39 ?c39 ?k39 ?a40 ?l40 ?c40 ?k40 ?a41 ?l41 ?c41 ?k41 ?a42 ?l42 ?c42 ?k42 ?zz0 ?zz1 ?zz2 ?zz3 ?zz4 ?zz5 ?zz6 ?zz7 ?zz8 ?zz9 ?zz10 ?zz11
  (case x0|xl0|xi0|x1|xl1|xi1|x2|xl2|xi2=>k_is)
  (case xo0 => rfl)
  (case xk0 => decide +kernel)
  (case xa0|xb0|xg0|xe0|xf0|xm0|xn0|xp0|xna0_0=>k_is)
  (case xo1 => rfl)
  (case xk1 => decide +kernel)
  (case xa1|xb1|xg1|xe1|xf1|xm1|xn1|xp1|xna1_0|xna1_1|xna1_2|xna1_3|xna1_4=>k_is)
  (case xo2 => rfl)
  (case xk2 => decide +kernel)
  (case xa2|xb2|xg2|xe2|xf2|xm2|xn2|xp2|xna2_0|xna2_1|xna2_2|xcg|xct|a0|l0|c0|k0|a1|l1|c1|k1|a2|l2|c2|k2|a3|l3|c3|k3|l4|c4|k4|l5|c5|k5|l6|c6|k6|a7|l7|c7|k7|a8|l8|c8|k8|a9|l9|c9|k9|a10|l10|c10|k10|a11|l11|c11|k11|a12|l12|c12|k12|a13|l13|c13|k13|a14|l14|c14|k14|a15|l15|c15|k15|a16|l16|c16|k16|a17|l17|c17|k17|a18|l18|c18|k18|a19|l19|c19|k19|a20|l20|c20|k20|a21|l21|c21|k21|a22|l22|c22|k22|a23|l23|c23|k23|a24|l24|c24|k24|a25|l25|c25|k25|a26|l26|c26|k26|a27|l27|c27|k27|a28|l28|c28|k28|a29|l29|c29|k29|a30|l30|c30|k30|a31|l31|c31|k31|a32|l32|c32|k32|a33|l33|c33|k33|a34|l34|c34|k34|a35|l35|c35|k35|a36|l36|c36|k36|a37|l37|c37|k37|a38|l38|c38|k38|a39|l39|c39|k39|a40|l40|c40|k40|a41|l41|c41|k41|a42|l42|c42|k42|zz0|zz1|zz2|zz3|zz4|zz5|zz6|zz7|zz8|zz9|zz10|zz11=>k_is)
