import PyProof.Rows.All
import Wide.All
import OpenK.AllK
import Wide.FinOn
import Lean
import PyProof.EqAt
import PyProof.EqKinds
import PyProof.TupleCall
import PySem.Challenge.RW_ballastway_k20_joined_again
set_option compiler.extract_closed false
set_option Elab.async false
set_option linter.all false
set_option maxRecDepth 100000
namespace L2
open PySem PySem.Spec PyProof.Rows
abbrev Key:=Sum Int Str
def nX:Key→Value→Bool
 | .inl k,v=>Value.isInt k v
 | .inr x,v=>Value.isStrOf x v
def AT(w:World):Key→Int
 | .inl k=>hashInt k
 | .inr x=>hashStr w x
theorem dl:∀{k:Key} {v:Value},nX k v=true→(∃i t,k=Sum.inl i∧v=Value.int i t)∨(∃x t,k=Sum.inr x∧v=Value.str x t)
 | .inl i,v,h=>by
   obtain⟨t,e⟩:=Value.isInt_shape (k:=i) (v:=v) h
   exact .inl ⟨i,t,rfl,e⟩
 | .inr x,v,h=>by
   obtain⟨t,e⟩:=Value.isStrOf_shape (x:=x) (v:=v) h
   exact .inr ⟨x,t,rfl,e⟩
theorem tK(i:Int)(t:Tok):nX (.inl i) (.int i t)=true:=by simp[nX,Value.isInt]
theorem tL(x:Str)(t:Tok):nX (.inr x) (.str x t)=true:=by simp[nX,Value.isStrOf]
theorem yo(a b:Int):decide ((Sum.inl a:Key)=Sum.inl b)=(a==b):=by
 by_cases e:a=b
 · subst e;simp
 · have h:¬(Sum.inl a:Key)=Sum.inl b:=fun q=>e (Sum.inl.inj q)
   rw[decide_eq_false h]
   exact(beq_eq_false_iff_ne.mpr e).symm
theorem yp(a b:Str):decide ((Sum.inr a:Key)=Sum.inr b)=decide (a=b):=by
 by_cases e:a=b
 · subst e;simp
 · have h:¬(Sum.inr a:Key)=Sum.inr b:=fun q=>e (Sum.inr.inj q)
   rw[decide_eq_false h,decide_eq_false e]
theorem yq(a:Int)(b:Str):decide ((Sum.inl a:Key)=Sum.inr b)=false:=decide_eq_false (fun q=>nomatch q)
theorem yr(a:Str)(b:Int):decide ((Sum.inr a:Key)=Sum.inl b)=false:=decide_eq_false (fun q=>nomatch q)
def eN(prog:Program)(w:World):PySem.KeyKind prog w Key where
 is:=nX
 hash:=AT w
 inj:=fun v a b ha hb=>by
  rcases dl ha with⟨i,t,rfl,rfl⟩|⟨x,t,rfl,rfl⟩
  · rcases dl hb with⟨j,u,rfl,e⟩|⟨y,u,rfl,e⟩
    · injection e with e1 _;rw[e1]
    · exact nomatch e
  · rcases dl hb with⟨j,u,rfl,e⟩|⟨y,u,rfl,e⟩
    · exact nomatch e
    · injection e with e1 _;rw[e1]
 byValue:=fun k v h=>by
  rcases dl h with⟨i,t,rfl,rfl⟩|⟨x,t,rfl,rfl⟩<;>rfl
 pyHash:=fun hv h=>by
  rcases dl hv with⟨i,t,rfl,rfl⟩|⟨x,t,rfl,rfl⟩
  · exact wpAny_pyHash_int h
  · exact wpAny_pyHash_str h
 eqBool:=fun hu hv h=>by
  rcases dl hu with⟨i,t,rfl,rfl⟩|⟨x,t,rfl,rfl⟩
  · rcases dl hv with⟨j,u,rfl,rfl⟩|⟨y,u,rfl,rfl⟩
    · rw[yo] at h;exact wpAny_eqBool_int h
    · rw[yq] at h;exact SeqAt.EqAt.int_str i t y u _ _ _ _ h
  · rcases dl hv with⟨j,u,rfl,rfl⟩|⟨y,u,rfl,rfl⟩
    · rw[yr] at h;exact SeqAt.EqAt.str_int x t j u _ _ _ _ h
    · rw[yp] at h;exact wpAny_eqBool_str h
 «strs»:=fun k x t v h=>by
  rcases dl h with⟨i,u,rfl,e⟩|⟨y,u,rfl,e⟩
  · exact nomatch e
  · injection e with e1 _
    subst e1
    cases v<;>rfl
theorem ql(prog:Program)(w:World)(i:Int)(t:Tok):(eN prog w).is (.inl i) (.int i t)=true:=tK i t
theorem qm(prog:Program)(w:World)(x:Str)(t:Tok):(eN prog w).is (.inr x) (.str x t)=true:=tL x t
end L2
namespace L2
open PySem PySem.Spec PyProof.Rows
inductive V where
 |non|bl (b:Bool)|int (i:Int)|str (x:Str)|byt (b:Array UInt8)|flt (b:UInt64)|ref (a:Addr)|ty (n:String)
 deriving DecidableEq
def RelV:V→Value→Prop
 | .non,u=>u=Value.none
 | .bl b,u=>u=Value.bool b
 | .int i,u=>∃t,u=Value.int i t
 | .str x,u=>∃t,u=Value.str x t
 | .byt b,u=>∃t,u=Value.bytes b t
 | .flt b,u=>∃t,u=Value.float b t
 | .ref a,u=>u=Value.ref a
 | .ty n,u=>u=Value.type n
abbrev Vals:List V→List Value→Prop:=Paired RelV
theorem Vals.length{xs:List V}{us:List Value}(r:Vals xs us):xs.length=us.length:=Paired.length r
theorem Vals.get:∀{xs:List V} {us:List Value} {i:Nat} {x:V},Vals xs us→xs[i]? =some x→∃u,us[i]? =some u∧RelV x u
 |_,_,_,_, .nil,e=>by simp at e
 |_,_,0,_, .cons r _,e=>by simp at e;subst e;exact⟨_,rfl,r⟩
 |_,_,i+1,x, .cons _ t,e=>by
  obtain⟨u,h1,h2⟩:=Vals.get (i:=i) (x:=x) t (by simpa using e)
  exact⟨u,by simpa using h1,h2⟩
theorem Vals.set{x:V}{u:Value}(r:RelV x u):∀{xs:List V} {us:List Value} (i:Nat),Vals xs us→Vals (xs.set i x) (us.set i u)
 |_,_,_, .nil=> .nil
 |_,_,0, .cons _ t=> .cons r t
 |_,_,i+1, .cons q t=> .cons q (Vals.set r i t)
theorem Vals.append:∀{xs ys:List V} {us ws:List Value},Vals xs us→Vals ys ws→Vals (xs++ys) (us++ws)
 |_,_,_,_, .nil,s=>s
 |_,_,_,_, .cons r t,s=> .cons r (Vals.append t s)
theorem Vals.take:∀{xs:List V} {us:List Value} (n:Nat),Vals xs us→Vals (xs.take n) (us.take n)
 |_,_,0,_=> .nil
 |_,_,_+1, .nil=> .nil
 |_,_,n+1, .cons r t=> .cons r (Vals.take n t)
theorem Vals.drop:∀{xs:List V} {us:List Value} (n:Nat),Vals xs us→Vals (xs.drop n) (us.drop n)
 |_,_,0,r=>r
 |_,_,_+1, .nil=> .nil
 |_,_,n+1, .cons _ t=>Vals.drop n t
def RelO:Option V→Option Value→Prop
 |some v,some u=>RelV v u
 |none,none=>True
 |_,_=>False
def KV{κ:Type}:List (κ×V)→List (κ×Value)→Prop:=Paired fun(p:κ×V) (q:κ×Value)=>p.1=q.1∧RelV p.2 q.2
def kV:Key→V
 | .inl i=> .int i
 | .inr x=> .str x
inductive HO where
 |lst (xs:List V)
 |tup (xs:List V)
 |dK (kvs:List (Key×V))|dT (kvs:List (List Key×V))
 |set (S:Int→Bool) (n:Nat)
 |ins (C dx:Addr) (fs:List (Str×V))
 |own (x:Addr)
 |xd (fs:List (Str×V))
 |met (f x:Addr)
 |rng (lo hi:Int)
 |frz (o:Obj) (u:HO)
 |tbl (ps:Array Value)
 |ext (φ:Heap→Prop)
abbrev Hp:=Addr→Option HO
def upd(H:Hp)(a:Addr)(o:HO):Hp:=fun b=>if b=a then some o else H b
theorem bV{H:Hp}{a:Addr}{o:HO}:upd H a o a=some o:=by unfold upd;rw[if_pos rfl]
theorem bO{H:Hp}{a b:Addr}{o:HO}(h:b≠a):upd H a o b=H b:=by unfold upd;rw[if_neg h]
theorem bL{H:Hp}{a b:Addr}{o:HO}(h:H a=some o)(h':H b=none):a≠b:=by
 intro e;subst e;rw[h] at h';cases h'
section
variable(P:Program)(w:World)
def ObjOk(H:Hp)(h:Heap)(a:Addr):HO→Prop
 | .lst xs=>xs.length≤sizeLine∧∃(its:List Value) (n:Nat),Vals xs its∧h.get? a=some {cls:= .type "list",data:= .seq its.toArray n}
 | .tup xs=>xs.length≤sizeLine∧∃its:List Value,Vals xs its∧IsTup h a its.toArray
 | .dK kvs=>kvs.length≤sizeLine∧(a==sysModules)=false∧∃vs,KV kvs vs∧h.DictOf (eN P w) a vs
 | .dT kvs=>kvs.length≤sizeLine∧(a==sysModules)=false∧∃xs:List (List Key×Addr×Value),
  Paired (fun(p:List Key×V) (q:List Key×Addr×Value)=>p.1=q.1∧H q.2.1=some (.tup (p.1.map kV))∧RelV p.2 q.2.2) kvs xs∧
  ∃o es ep,h.get? a=some o∧o.ExactDict∧o.data= .dict es ep∧es.toList=xs.map (entryOfKey (tupleKind (eN P w)))∧(xs.map (·.1)).Nodup
 | .set S n=>h.SetOf (intKind P w) a S n
 | .ins C dx fs=>H dx=some (.own a)∧fs.length≤1000∧dx≠a∧h.get? a=some (W.instObj C dx)∧
  ∃mA,h.Ns1 dx mA∧(∀f,RelO (fs.lookup f) (mA f))∧PySem.Within mA (fs.map (·.1))
 | .own _=>∃o,h.get? a=some o
 | .xd fs=>∃mA,h.Ns1 a mA∧∀f,RelO (fs.lookup f) (mA f)
 | .rng lo hi=>∃t u v,h.get? a=some {cls:= .type "range",data:= .fields #[.int lo t, .int hi u, .int 1 v]}
 | .frz o u=>h.get? a=some o∧ObjOk H h a u
 | .tbl ps=>h.get? a=some {cls:= .none,data:= .fields ps}
 | .met f x=>h.get? a=some (W.methodObj (.ref f) (.ref x))
 | .ext φ=>φ h∧(∃o,h.get? a=some o)∧∀h1 h2:Heap,φ h1→(∀o,h1.get? a=some o→h2.get? a=some o)→φ h2
def HOk(H:Hp)(h:Heap):Prop:=∀a o,H a=some o→ObjOk P w H h a o
end
section
variable{P:Program}{w:World}{H H':Hp}{h h':Heap}{a:Addr}{o:HO}
theorem ObjOk.lt(x:ObjOk P w H h a o):a<h.objs.size:=by
 cases o with
 |lst xs=>obtain⟨_,_,_,_,e⟩:=x;exact Heap.lt_size e
 |tup xs=>obtain⟨_,_,_,p⟩:=x;exact p.lt
 |dK kvs=>obtain⟨_,_,_,_,o,_,_,e,_⟩:=x;exact Heap.lt_size e
 |dT kvs=>obtain⟨_,_,_,_,o,_,_,e,_⟩:=x;exact Heap.lt_size e
 |set S n=>obtain⟨o,_,_,_,e,_⟩:=x;exact Heap.lt_size e
 |ins C dx fs=>obtain⟨_,_,_,e,_⟩:=x;exact Heap.lt_size e
 |own y=>obtain⟨_,e⟩:=x;exact Heap.lt_size e
 |xd fs=>obtain⟨_,⟨_,_,_,e,_⟩,_⟩:=x;exact Heap.lt_size e
 |rng lo hi=>obtain⟨_,_,_,e⟩:=x;exact Heap.lt_size e
 |frz ob u=>obtain⟨e,_⟩:=x;exact Heap.lt_size e
 |tbl ps=>exact Heap.lt_size (show h.get? a=some _ from x)
 |met f y=>exact Heap.lt_size (show h.get? a=some _ from x)
 |ext φ=>obtain⟨_,⟨_,e⟩,_⟩:=x;exact Heap.lt_size e
theorem Paired.mapP{α β:Type}{F G:α→β→Prop}:∀{l₁:List α} {l₂:List β},Paired F l₁ l₂→(∀a b,F a b→G a b)→Paired G l₁ l₂
 |_,_, .nil,_=> .nil
 |_,_, .cons r t,f=> .cons (f _ _ r) (Paired.mapP t f)
theorem ObjOk.stay(x:ObjOk P w H h a o)(k:∀b u,(b=a∨H b=some (.own a))→h.get? b=some u→h'.get? b=some u)
 (ho:∀b,H b=some (.own a)→H' b=some (.own a))(ht:∀b xs,H b=some (.tup xs)→H' b=some (.tup xs)):ObjOk P w H' h' a o:=by
 induction o with
 |lst xs=>obtain⟨z,its,n,r,e⟩:=x;exact⟨z,its,n,r,k _ _ (.inl rfl) e⟩
 |tup xs=>obtain⟨z,its,r,ob,e,c⟩:=x;exact⟨z,its,r,ob,k _ _ (.inl rfl) e,c⟩
 |dK kvs=>obtain⟨z,y,vs,r,ob,es,ep,e,c⟩:=x;exact⟨z,y,vs,r,ob,es,ep,k _ _ (.inl rfl) e,c⟩
 |dT kvs=>
  obtain⟨z,y,xs,r,ob,es,ep,e,c⟩:=x
  exact⟨z,y,xs,Paired.mapP r fun p q z=>⟨z.1,ht _ _ z.2.1,z.2.2⟩,ob,es,ep,k _ _ (.inl rfl) e,c⟩
 |set S n=>obtain⟨ob,es,ep,t,e,c⟩:=x;exact⟨ob,es,ep,t,k _ _ (.inl rfl) e,c⟩
 |ins C dx fs=>
  obtain⟨d,z,ne,e,mA,⟨od,es,ep,e2,c⟩,r⟩:=x
  exact⟨ho _ d,z,ne,k _ _ (.inl rfl) e,mA,⟨od,es,ep,k _ _ (.inr d) e2,c⟩,r⟩
 |own y=>obtain⟨ob,e⟩:=x;exact⟨ob,k _ _ (.inl rfl) e⟩
 |xd fs=>obtain⟨mA,⟨od,es,ep,e,c⟩,r⟩:=x;exact⟨mA,⟨od,es,ep,k _ _ (.inl rfl) e,c⟩,r⟩
 |rng lo hi=>obtain⟨t,u,v,e⟩:=x;exact⟨t,u,v,k _ _ (.inl rfl) e⟩
 |frz ob u ih=>obtain⟨e,q⟩:=x;exact⟨k _ _ (.inl rfl) e,ih q⟩
 |tbl ps=>
  have e:h.get? a=some {cls:= .none,data:= .fields ps}:=x
  show h'.get? a=some {cls:= .none,data:= .fields ps}
  exact k a _ (.inl rfl) e
 |met f y=>
  have e:h.get? a=some (W.methodObj (.ref f) (.ref y)):=x
  show h'.get? a=some (W.methodObj (.ref f) (.ref y))
  exact k a _ (.inl rfl) e
 |ext φ=>obtain⟨p,⟨o,e⟩,st⟩:=x;exact⟨st _ _ p fun o q=>k _ _ (.inl rfl) q,⟨o,k _ _ (.inl rfl) e⟩,st⟩
theorem HOk.lt(x:HOk P w H h)(e:H a=some o):a<h.objs.size:=(x a o e).lt
theorem HOk.fresh(x:HOk P w H h)(e:h.objs.size≤a):H a=none:=by
 cases q:H a with
 |none=>rfl
 |some u=>exact absurd (Nat.lt_of_lt_of_le (x.lt q) e) (Nat.lt_irrefl _)
theorem HOk.kept(x:HOk P w H h)(k:∀b u,h.get? b=some u→h'.get? b=some u):HOk P w H h':=fun a o e=>
 (x a o e).stay (fun b u _ q=>k b u q) (fun _ q=>q) fun _ _ q=>q
theorem HOk.laid(x:HOk P w H h)(k:∀b u,h.get? b=some u→h'.get? b=some u)(hp:h.objs.size≤a)(new:ObjOk P w (upd H a o) h' a o):HOk P w (upd H a o) h':=fun b u e=>by
 have hn:=x.fresh hp
 by_cases hb:b=a
 · subst hb;rw[bV] at e;cases e;exact new
 · rw[bO hb] at e
   exact(x b u e).stay (fun c v _ q=>k c v q) (fun c q=>by rw[bO (bL q hn)];exact q) fun c xs q=>by rw[bO (bL q hn)];exact q
end
def Rd(H:Hp)(a:Addr)(u:HO):Prop:=H a=some u∨∃o,H a=some (.frz o u)
theorem Rd.of{H:Hp}{a:Addr}{u:HO}(h:H a=some u):Rd H a u:= .inl h
theorem Rd.ok{P:Program}{w:World}{H:Hp}{h:Heap}{a:Addr}{u:HO}(r:Rd H a u)(x:HOk P w H h):ObjOk P w H h a u:=by
 rcases r with r|⟨o,r⟩
 · exact x a u r
 · obtain⟨_,q⟩:=x a _ r
   exact q
def Mut:Option HO→Prop
 |some (.lst _)=>True
 |some (.dK _)=>True
 |some (.dT _)=>True
 |some (.set _ _)=>True
 |some (.ins _ _ _)=>True
 |some (.ext _)=>True
 |_=>False
section
variable{P:Program}{w:World}{H:Hp}{h h':Heap}{x e:Addr}{o':HO}
theorem HOk.write(ok:HOk P w H h)(mu:Mut (H x))(he:e=x∨H e=some (.own x))(k:∀b u,b≠e→h.get? b=some u→h'.get? b=some u)(heo:∃u,h'.get? e=some u)
 (new:ObjOk P w (upd H x o') h' x o'):HOk P w (upd H x o') h':=fun b u q=>by
 have nown:∀c y,H c=some (.own y)→c≠x:=fun c y r z=>by subst z;rw[r] at mu;exact mu
 have ntup:∀c xs,H c=some (.tup xs)→c≠x:=fun c xs r z=>by subst z;rw[r] at mu;exact mu
 by_cases hb:b=x
 · subst hb;rw[bV] at q;cases q;exact new
 · rw[bO hb] at q
   by_cases hbe:b=e
   · have q':H b=some (.own x):=by
      rcases he with z|z
      · exact absurd (hbe.trans z) hb
      · rw[hbe];exact z
     rw[q] at q';cases q'
     obtain⟨v,hv⟩:=heo
     exact⟨v,by rw[hbe];exact hv⟩
   · refine(ok b u q).stay (fun c v hc r=>k c v ?_ r) (fun c r=>by rw[bO (nown c b r)];exact r) fun c xs r=>by rw[bO (ntup c xs r)];exact r
     rcases hc with rfl|hc
     · exact hbe
     · rintro rfl
       rcases he with z|z
       · exact nown c b hc z
       · rw[hc] at z;cases z;exact hb rfl
end
structure Un(fs ex:List Addr)(H H':Hp)(h h':Heap):Prop where
 keep:∀b o,h.get? b=some o→H b=none→b∉fs→b∉ex→h'.get? b=some o
 slot:∀b o,h.get? b=some o→H b=none→b∈fs→b∉ex→∃sl,h'.get? b=some {o with slots:=sl}
 free:∀b o,h.get? b=some o→H b=none→b∉ex→H' b=none
 there:∀b o,h.get? b=some o→b∉ex→∃o',h'.get? b=some o'
 tups:∀b xs,H b=some (.tup xs)→H' b=some (.tup xs)
 frzs:∀b o u,H b=some (.frz o u)→H' b=some (.frz o u)
 tbls:∀b ps,H b=some (.tbl ps)→∃more,H' b=some (.tbl (ps++more))
section
variable{fs fs' ex ex':List Addr}{H H1 H2:Hp}{h h1 h2 h':Heap}{a x e:Addr}{o:HO}
theorem Un.any(u:Un fs ex H H1 h h1){b:Addr}{ob:Obj}(q:h.get? b=some ob)(n:H b=none)(hx:b∉ex):∃sl,h1.get? b=some {ob with slots:=sl}:=by
 by_cases hb:b∈fs
 · exact u.slot b ob q n hb hx
 · exact⟨ob.slots,u.keep b ob q n hb hx⟩
theorem Un.trans(a:Un fs ex H H1 h h1)(b:Un fs ex H1 H2 h1 h2):Un fs ex H H2 h h2 where
 keep:=fun c ob q n hc hx=>b.keep c ob (a.keep c ob q n hc hx) (a.free c ob q n hx) hc hx
 slot:=fun c ob q n hc hx=>by
  obtain⟨sl,e1⟩:=a.slot c ob q n hc hx
  obtain⟨sl',e2⟩:=b.slot c _ e1 (a.free c ob q n hx) hc hx
  exact⟨sl',e2⟩
 free:=fun c ob q n hx=>by
  obtain⟨o',e1⟩:=a.there c ob q hx
  exact b.free c o' e1 (a.free c ob q n hx) hx
 there:=fun c ob q hx=>by
  obtain⟨o',e1⟩:=a.there c ob q hx
  exact b.there c o' e1 hx
 tups:=fun c xs q=>b.tups c xs (a.tups c xs q)
 frzs:=fun c ob xs q=>b.frzs c ob xs (a.frzs c ob xs q)
 tbls:=fun c ps q=>by
  obtain⟨m1,e1⟩:=a.tbls c ps q
  obtain⟨m2,e2⟩:=b.tbls c _ e1
  exact⟨m1++m2,by rw[e2,Array.append_assoc]⟩
theorem Un.kept(k:∀b u,h.get? b=some u→h'.get? b=some u):Un fs ex H H h h':=
 ⟨fun b ob q _ _ _=>k b ob q,fun b ob q _ _ _=>⟨ob.slots,k b ob q⟩,fun _ _ _ n _=>n,fun b ob q _=>⟨ob,k b ob q⟩,fun _ _ q=>q,fun _ _ _ q=>q,fun _ ps q=>⟨#[],by rw[q];simp⟩⟩
theorem Un.refl:Un fs ex H H h h:=Un.kept fun _ _ q=>q
theorem Un.laid(k:∀b u,h.get? b=some u→h'.get? b=some u)(hp:h.objs.size≤a)(hn:H a=none):Un fs ex H (upd H a o) h h' where
 keep:=fun b u q _ _ _=>k b u q
 slot:=fun b u q _ _ _=>⟨u.slots,k b u q⟩
 free:=fun b u q n _=>by rw[bO (Nat.ne_of_lt (Nat.lt_of_lt_of_le (Heap.lt_size q) hp))];exact n
 there:=fun b u q _=>⟨u,k b u q⟩
 tups:=fun b xs q=>by rw[bO (bL q hn)];exact q
 frzs:=fun b u xs q=>by rw[bO (bL q hn)];exact q
 tbls:=fun b ps q=>⟨#[],by rw[bO (bL q hn),q];simp⟩
theorem Un.write(mu:Mut (H x))(he:e=x∨H e=some (.own x))(k:∀b u,b≠e→h.get? b=some u→h'.get? b=some u)(heo:∃u,h'.get? e=some u):Un fs ex H (upd H x o) h h':=by
 have hx:∀b,H b=none→b≠x:=fun b n z=>by subst z;rw[n] at mu;exact mu
 have hb:∀b,H b=none→b≠e:=fun b n z=>by
  subst z
  rcases he with r|r
  · exact hx b n r
  · rw[n] at r;cases r
 have hm:∀b u,H b=some u→¬Mut (some u)→b≠x:=fun b u q nm z=>by subst z;rw[q] at mu;exact nm mu
 refine⟨fun b u q n _ _=>k b u (hb b n) q,fun b u q n _ _=>⟨u.slots,k b u (hb b n) q⟩,fun b u q n _=>by rw[bO (hx b n)];exact n,fun b u q _=> ?_,
  fun b xs q=>by rw[bO (hm b _ q fun z=>z)];exact q,fun b u xs q=>by rw[bO (hm b _ q fun z=>z)];exact q,fun b ps q=>⟨#[],by rw[bO (hm b _ q fun z=>z),q];simp⟩⟩
 by_cases hbe:b=e
 · subst hbe;exact heo
 · exact⟨u,k b u hbe q⟩
theorem Un.mono(u:Un fs ex H H1 h h1)(hs:∀b∈fs,b∈fs')(hx:∀b∈ex,b∈ex'):Un fs' ex' H H1 h h1:=
 ⟨fun b ob q n hb he=>u.keep b ob q n (fun z=>hb (hs b z)) fun z=>he (hx b z),fun _ _ q n _ he=>u.any q n fun z=>he (hx _ z),fun b ob q n he=>u.free b ob q n fun z=>he (hx b z),fun b ob q he=>u.there b ob q fun z=>he (hx b z),u.tups,u.frzs,u.tbls⟩
end
def trk(h:Heap)(H:Hp):List Addr:=(List.range h.objs.size).filter fun a=>(H a).isSome
def oW(h:Heap)(H:Hp):Heap:=W.hideAll h (trk h H)
theorem tM(h:Heap)(H:Hp):(oW h H).objs.size=h.objs.size:=W.hideAll_size _ _
theorem ur{h:Heap}{H:Hp}{b:Addr}{o:Obj}(e:h.get? b=some o)(n:H b=none):(oW h H).get? b=some o:=
 W.hideAll_get _ e fun hm=>by
  have q:(H b).isSome=true:=(List.mem_filter.mp hm).2
  rw[n] at q;simp at q
theorem wk{h:Heap}{H:Hp}{b:Addr}{o:Obj}(e:(oW h H).get? b=some o):h.get? b=some o∧H b=none:=by
 have e':h.get? b=some o:=W.of_hideAll (trk h H) e
 refine⟨e', ?_⟩
 cases q:H b with
 |none=>rfl
 |some x=>
  have hm:b∈trk h H:=List.mem_filter.mpr ⟨List.mem_range.mpr (Heap.lt_size e'),by simp[q]⟩
  have z:(oW h H).get? b=none:=W.hideAll_none (trk h H) hm
  rw[z] at e;cases e
def wm(g h:Heap)(L:Addr):List (Addr×Obj):=(List.range h.objs.size).filterMap fun a=>if a=L∨(g.get? a).isSome=true then none else(h.get? a).map fun o=>(a,o)
def gU(g h:Heap)(L d:Addr):List (Addr×Obj):=(wm g h L).filter fun p=>decide (p.1≠d)
end L2
namespace L2
open PySem PySem.Spec PyProof.Rows
structure Mod(K:W.Frag)(mg:Str→Option Value)(base:Heap):Prop where
 kin:K.In base
 glob:base.Ns mainGlobals mg
 blt:∃mb,base.Ns builtinsNs mb∧∀x:Str,x≠"__name__"→mb x=bootBuiltins x
 nolimit:base.NoLimit
structure Cx where
 prog:Program
 w:World
 K:W.Frag
 mg:Str→Option Value
 base:Heap
 A:Around
 N:List Str
 s₀:Shared
 H₀:Hp
 env:Env
 outer:List Env
 stack:List Env
 ex:List Addr
 fn:Str→Bool
 calm:Bool
 pn:List (Addr×Obj)
 xe:Value→Shared→Prop
def frs(l:List Env):List Addr:=l.filterMap (·.frame)
abbrev Cx.fs(X:Cx):List Addr:=frs X.outer
def Vis(sc:Scope)(x:Str):Prop:=sc.names.lookup x=some .local∨sc.names.lookup x=some .cell∨sc.names.lookup x=some .free
def Loc(sc:Scope)(x:Str):Prop:=sc.names.lookup x=some .local∨sc.names.lookup x=some .cell
def AU(env:Env)(h:Heap)(m:Str→Option Value)(x:Str)(u:Value):Prop:=
 (env.kindOf x=some .local∧m x=some u)∨((env.kindOf x=some .cell∨env.kindOf x=some .free)∧∃c,env.cells.lookup x=some c∧h.IsCell c (some u))
structure Cx.Ok(X:Cx):Prop where
 mod:Mod X.K X.mg X.base
 kind:X.env.scope.kind= .function
 glob:X.env.globals=mainGlobals
 blt:X.env.builtins=builtinsNs
 above:X.s₀.heap.objs.size≤X.env.locals
 inj:∀x y c,X.env.cells.lookup x=some c→X.env.cells.lookup y=some c→x=y
 has:∀x,(X.env.kindOf x=some .cell∨X.env.kindOf x=some .free)→∃c,X.env.cells.lookup x=some c
 cab:∀x c,X.fn x=true→X.env.cells.lookup x=some c→X.s₀.heap.objs.size≤c
 hd:X.calm=true→X.A.handled=none
 frames:X.A.frames=some X.stack
 stk:X.stack=X.outer∨(X.stack=X.env::X.outer∧X.env.frame=some X.env.locals)
 exf:∀b∈X.ex,b≠X.env.locals∧∀x c,X.env.cells.lookup x=some c→c≠b
 bs:∀b o,X.base.get? b=some o→X.s₀.heap.get? b=some o∧X.H₀ b=none
 bsz:X.base.objs.size≤X.s₀.heap.objs.size
 noex:∀b o,X.base.get? b=some o→b∉X.ex
 exfs:∀b∈X.ex,b∉X.fs
 funs:X.s₀.heap.FunFrames X.base X.outer
 frf:∀b∈X.fs,X.H₀ b=none
structure Inv(X:Cx)(pins:List (Addr×Obj))(σ:List (Option V))(H:Hp)(s:Shared):Prop where
 ok:X.Ok
 os:s.os=X.s₀.os
 bare:AllBare s.gens
 base:Un X.fs X.ex X.H₀ H X.s₀.heap s.heap
 loc:∃m,s.heap.Ns X.env.locals m∧∀(i:Nat) (x:Str) (v:V),X.N[i]? =some x→σ[i]? =some (some v)→Vis X.env.scope x→∃u,RelV v u∧AU X.env s.heap m x u
 cell:∀x c,X.env.cells.lookup x=some c→∃v,s.heap.IsCell c v
 free:H X.env.locals=none
 freeC:∀x c,X.env.cells.lookup x=some c→H c=none
 pin:∀p∈X.pn++pins,s.heap.get? p.1=some p.2∧H p.1=none∧p.1≠X.env.locals∧p.1∉X.fs∧∀v,p.2.data≠ .cell v
 hok:HOk X.prog X.w H s.heap
 len:σ.length=X.N.length
section
variable{X:Cx}{pins:List (Addr×Obj)}{σ:List (Option V)}{H H':Hp}{s:Shared}{h':Heap}
theorem Cx.Ok.nofr(ok:X.Ok){b:Addr}{o:Obj}(e:X.base.get? b=some o):b∉X.fs:=fun hb=>by
 have:=(ok.funs.mem hb).1
 rw[e] at this;cases this
theorem Inv.bs(I:Inv X pins σ H s):∀b o,X.base.get? b=some o→s.heap.get? b=some o∧H b=none:=fun b o e=>
 ⟨I.base.keep b o (I.ok.bs b o e).1 (I.ok.bs b o e).2 (I.ok.nofr e) (I.ok.noex b o e),I.base.free b o (I.ok.bs b o e).1 (I.ok.bs b o e).2 (I.ok.noex b o e)⟩
theorem Inv.bk(I:Inv X pins σ H s):∀b o,X.base.get? b=some o→s.heap.get? b=some o:=fun b o e=>(I.bs b o e).1
theorem Inv.mod(I:Inv X pins σ H s):Mod X.K X.mg X.base:=I.ok.mod
theorem Inv.kIn(I:Inv X pins σ H s):X.K.In s.heap:=I.ok.mod.kin.keeps I.bk
theorem Inv.nolimit(I:Inv X pins σ H s):s.heap.NoLimit:=I.ok.mod.nolimit.keeps I.bk
theorem Inv.fr(I:Inv X pins σ H s):∃m,Fr X.base X.env.locals s.heap m:=
 let⟨m,hn,_⟩:=I.loc
 ⟨m,hn,I.bk,Nat.le_trans I.ok.bsz I.ok.above⟩
theorem Inv.lt(I:Inv X pins σ H s):X.env.locals<s.heap.objs.size:=let⟨_,hn,_⟩:=I.loc;hn.lt
theorem Inv.sz(I:Inv X pins σ H s):X.s₀.heap.objs.size≤s.heap.objs.size:=Nat.le_trans I.ok.above (Nat.le_of_lt I.lt)
theorem Inv.nofs(I:Inv X pins σ H s){a:Addr}(h:s.heap.objs.size≤a):a∉X.fs:=fun hb=>by
 obtain⟨_,o,ho,_⟩:=I.ok.funs.mem hb
 exact absurd (Nat.lt_of_lt_of_le (Heap.lt_size ho) (Nat.le_trans I.sz h)) (Nat.lt_irrefl _)
theorem Inv.cne(I:Inv X pins σ H s):∀x c,X.env.cells.lookup x=some c→c≠X.env.locals:=fun x c e z=>by
 obtain⟨v,o,ho,hd⟩:=I.cell x c e
 obtain⟨m,⟨o',es,ep,ho',hd',_⟩,_⟩:=I.loc
 rw[z,ho'] at ho;cases ho;rw[hd'] at hd;cases hd
theorem Inv.funs(I:Inv X pins σ H s):s.heap.FunFrames X.base X.outer:=by
 have all:∀(l:List Env),(∀b∈frs l,b∈X.fs)→X.s₀.heap.FunFrames X.base l→s.heap.FunFrames X.base l:=by
  intro l
  induction l with
  |nil=>intro _ _;trivial
  |cons env r ih=>
   intro hs hl
   obtain⟨hk,⟨L,o,hf,hn,ho,hd⟩,hr⟩:=hl
   have hL:L∈X.fs:=hs L (by unfold frs;rw[List.filterMap_cons,hf];exact List.mem_cons_self)
   obtain⟨sl,e⟩:=I.base.slot L o ho (I.ok.frf L hL) hL fun z=>I.ok.exfs L z hL
   exact⟨hk,⟨L,_,hf,hn,e,hd⟩,ih (fun b hb=>hs b (by unfold frs;rw[List.filterMap_cons,hf];exact List.mem_cons_of_mem _ hb)) hr⟩
 exact all X.outer (fun _ hb=>hb) I.ok.funs
theorem Inv.stack(I:Inv X pins σ H s):s.heap.FunFrames X.base X.stack:=by
 rcases I.ok.stk with e|⟨e,hf⟩
 · rw[e];exact I.funs
 · rw[e]
   obtain⟨m,hn,_⟩:=I.loc
   refine .cons (by rw[I.ok.kind];decide) hf hn ?_ I.funs
   exact Heap.get?_none_of_le (Nat.le_trans I.ok.bsz I.ok.above)
theorem Inv.stkSub(I:Inv X pins σ H s):∀b∈frs X.stack,b∈X.env.locals::X.fs:=fun b hb=>by
 rcases I.ok.stk with e|⟨e,hf⟩
 · rw[e] at hb;exact List.mem_cons_of_mem _ hb
 · rw[e] at hb
   unfold frs at hb
   rw[List.filterMap_cons,hf] at hb
   exact hb
theorem Inv.stkFree(I:Inv X pins σ H s):∀b∈frs X.stack,H b=none:=fun b hb=>by
 rcases List.mem_cons.mp (I.stkSub b hb) with e|hb
 · rw[e];exact I.free
 · obtain⟨_,o,ho,_⟩:=I.ok.funs.mem hb
   exact I.base.free b o ho (I.ok.frf b hb) fun z=>I.ok.exfs b z hb
theorem Inv.step{g':Array GenState}{t':Nat}{d':Drawn}{ch:List Addr}(I:Inv X pins σ H s)
 (hch:∀b∈ch,(b∈X.ex∨X.s₀.heap.objs.size≤b)∧b≠X.env.locals∧(∀x c,X.env.cells.lookup x=some c→c≠b)∧∀p∈X.pn++pins,p.1≠b)
 (keep:∀b o,b≠X.env.locals→b∉X.fs→b∉ch→s.heap.get? b=some o→H b=none→h'.get? b=some o)
 (slot:∀b o,b≠X.env.locals→b∈X.fs→b∉ch→s.heap.get? b=some o→H b=none→∃sl,h'.get? b=some {o with slots:=sl})(free:∀b o,b∉ch→s.heap.get? b=some o→H b=none→H' b=none)
 (there:∀b o,b∉ch→s.heap.get? b=some o→∃o',h'.get? b=some o')
 (tups:∀b xs,H b=some (.tup xs)→H' b=some (.tup xs))(frzs:∀b o u,H b=some (.frz o u)→H' b=some (.frz o u))(tbls:∀b ps,H b=some (.tbl ps)→∃more,H' b=some (.tbl (ps++more)))
 (ns:∀m,s.heap.Ns X.env.locals m→h'.Ns X.env.locals m)(hok:HOk X.prog X.w H' h')(hg:AllBare g'):
 Inv X pins σ H' {s with heap:=h',gens:=g',drawn:=d',toks:=t'}:=by
 have neL:∀b o,X.s₀.heap.get? b=some o→b≠X.env.locals:=fun b o e=>Nat.ne_of_lt (Nat.lt_of_lt_of_le (Heap.lt_size e) I.ok.above)
 have neC:∀b o,X.s₀.heap.get? b=some o→b∉X.ex→b∉ch:=fun b o e hx hb=>by
  rcases(hch b hb).1 with z|z
  · exact hx z
  · exact absurd (Nat.lt_of_lt_of_le (Heap.lt_size e) z) (Nat.lt_irrefl _)
 have cellK:∀x c,X.env.cells.lookup x=some c→∀v,s.heap.IsCell c v→h'.IsCell c v:=fun x c e v ⟨o,ho,hd⟩=>by
  have nch:c∉ch:=fun z=>(hch c z).2.2.1 x c e rfl
  by_cases hc:c∈X.fs
  · obtain⟨sl,q⟩:=slot c o (I.cne x c e) hc nch ho (I.freeC x c e)
    exact⟨_,q,hd⟩
  · exact⟨o,keep c o (I.cne x c e) hc nch ho (I.freeC x c e),hd⟩
 refine⟨I.ok,I.os,hg,⟨fun b o e n hb hx=> ?_,fun b o e n hb hx=> ?_,fun b o e n hx=> ?_,fun b o e hx=> ?_,fun b xs e=>tups b xs (I.base.tups b xs e),fun b o xs e=>frzs b o xs (I.base.frzs b o xs e),fun b ps e=> ?_⟩, ?_,fun x c e=> ?_, ?_,fun x c e=> ?_,fun p hp=> ?_,hok,I.len⟩
 · exact keep b o (neL b o e) hb (neC b o e hx) (I.base.keep b o e n hb hx) (I.base.free b o e n hx)
 · obtain⟨sl,e1⟩:=I.base.slot b o e n hb hx
   obtain⟨sl',e2⟩:=slot b _ (neL b o e) hb (neC b o e hx) e1 (I.base.free b o e n hx)
   exact⟨sl',e2⟩
 · obtain⟨o',e1⟩:=I.base.there b o e hx
   exact free b o' (neC b o e hx) e1 (I.base.free b o e n hx)
 · obtain⟨o',e1⟩:=I.base.there b o e hx
   exact there b o' (neC b o e hx) e1
 · obtain⟨m1,e1⟩:=I.base.tbls b ps e
   obtain⟨m2,e2⟩:=tbls b _ e1
   exact⟨m1++m2,by rw[e2,Array.append_assoc]⟩
 · obtain⟨m,hn,hl⟩:=I.loc
   refine⟨m,ns m hn,fun i x v e1 e2 e3=> ?_⟩
   obtain⟨u,r,l⟩:=hl i x v e1 e2 e3
   refine⟨u,r, ?_⟩
   rcases l with l|⟨k,c,e,z⟩
   · exact .inl l
   · exact .inr ⟨k,c,e,cellK x c e _ z⟩
 · obtain⟨v,z⟩:=I.cell x c e
   exact⟨v,cellK x c e v z⟩
 · obtain⟨m,⟨o,_,_,ho,_⟩,_⟩:=I.loc
   exact free _ o (fun z=>(hch _ z).2.1 rfl) ho I.free
 · obtain⟨v,o,ho,hd⟩:=I.cell x c e
   exact free c o (fun z=>(hch c z).2.2.1 x c e rfl) ho (I.freeC x c e)
 · obtain⟨e,n,ne,nf,d⟩:=I.pin p hp
   have nch:p.1∉ch:=fun z=>(hch p.1 z).2.2.2 p hp rfl
   exact⟨keep p.1 p.2 ne nf nch e n,free p.1 p.2 nch e n,ne,nf,d⟩
theorem Inv.un{t':Nat}(I:Inv X pins σ H s)(u:Un X.fs [] H H' s.heap h')(hok:HOk X.prog X.w H' h'):Inv X pins σ H' {s with heap:=h',toks:=t'}:=by
 obtain⟨m,⟨o,es,ep,ho,r⟩,_⟩:=id I.loc
 obtain⟨sl,hL⟩:=u.any ho I.free (by simp)
 exact I.step (g':=s.gens) (d':=s.drawn) (ch:=[]) (fun _ z=>nomatch z) (fun b o _ hb _ e n=>u.keep b o e n hb (by simp)) (fun b o _ hb _ e n=>u.slot b o e n hb (by simp)) (fun b o _ e n=>u.free b o e n (by simp)) (fun b o _ e=>u.there b o e (by simp)) u.tups u.frzs u.tbls (fun m' hm=>by
  obtain⟨o',es',ep',ho',r'⟩:=hm
  rw[ho] at ho';cases ho'
  exact⟨_,es',ep',hL,r'⟩) hok I.bare
theorem Inv.call{g':Array GenState}{t':Nat}{d':Drawn}{ch:List Addr}(I:Inv X pins σ H s)(u:Un (frs X.stack) ch H H' s.heap h')(hok:HOk X.prog X.w H' h')(hg:AllBare g')
 (hch:∀b∈ch,(b∈X.ex∨X.s₀.heap.objs.size≤b)∧b≠X.env.locals∧(∀x c,X.env.cells.lookup x=some c→c≠b)∧∀p∈X.pn++pins,p.1≠b):
 Inv X pins σ H' {s with heap:=h',gens:=g',drawn:=d',toks:=t'}:=by
 obtain⟨m,⟨o,es,ep,ho,r⟩,_⟩:=id I.loc
 obtain⟨sl,hL⟩:=u.any ho I.free fun z=>(hch _ z).2.1 rfl
 exact I.step (ch:=ch) hch (fun b o hL hb hc e n=>u.keep b o e n (fun z=>(List.mem_cons.mp (I.stkSub b z)).elim hL hb) hc) (fun b o _ _ hc e n=>u.any e n hc) (fun b o hc e n=>u.free b o e n hc) (fun b o hc e=>u.there b o e hc) u.tups u.frzs u.tbls (fun m' hm=>by
  obtain⟨o',es',ep',ho',r'⟩:=hm
  rw[ho] at ho';cases ho'
  exact⟨_,es',ep',hL,r'⟩) hok hg
theorem Inv.turned{t':Nat}{it:Addr}(I:Inv X pins σ H s)(k:∀b o,b≠it→s.heap.get? b=some o→h'.get? b=some o)(hn:H it=none)(hL:it≠X.env.locals)
 (h1:it∈X.ex∨X.s₀.heap.objs.size≤it)(h2:∀x c,X.env.cells.lookup x=some c→c≠it)(h3:∀p∈X.pn++pins,p.1≠it):Inv X pins σ H {s with heap:=h',toks:=t'}:=by
 have nit:∀b u,H b=some u→b≠it:=fun b u e z=>by rw[z,hn] at e;cases e
 refine I.step (g':=s.gens) (d':=s.drawn) (ch:=[it]) (fun b hb=> ?_) (fun b o _ _ hc e _=>k b o (fun z=>hc (by simp[z])) e) (fun b o _ _ hc e _=>⟨o.slots,k b o (fun z=>hc (by simp[z])) e⟩) (fun _ _ _ _ n=>n)
  (fun b o hc e=>⟨o,k b o (fun z=>hc (by simp[z])) e⟩) (fun _ _ e=>e) (fun _ _ _ e=>e) (fun b ps e=>⟨#[],by rw[e];simp⟩) (fun m hm=> ?_) (fun b u e=> ?_) I.bare
 · have e:b=it:=by simpa using hb
   subst e
   exact⟨h1,hL,h2,h3⟩
 · obtain⟨o,es,ep,ho,r⟩:=hm
   exact⟨o,es,ep,k _ o (Ne.symm hL) ho,r⟩
 · refine(I.hok b u e).stay (fun c v hc q=>k c v ?_ q) (fun _ q=>q) fun _ _ q=>q
   rcases hc with z|z
   · rw[z];exact nit b u e
   · exact nit c _ z
theorem Inv.tok(I:Inv X pins σ H s)(t:Nat):Inv X pins σ H {s with toks:=t}:=I.un (h':=s.heap) (t':=t) Un.refl I.hok
theorem Inv.kept{t':Nat}(I:Inv X pins σ H s)(k:∀b u,s.heap.get? b=some u→h'.get? b=some u):Inv X pins σ H {s with heap:=h',toks:=t'}:=I.un (Un.kept k) (I.hok.kept k)
theorem Inv.laid{a:Addr}{o:HO}{t':Nat}(I:Inv X pins σ H s)(k:∀b u,s.heap.get? b=some u→h'.get? b=some u)(hp:s.heap.objs.size≤a)(new:ObjOk X.prog X.w (upd H a o) h' a o):
 Inv X pins σ (upd H a o) {s with heap:=h',toks:=t'}:=I.un (Un.laid k hp (I.hok.fresh hp)) (I.hok.laid k hp new)
theorem Inv.write{x e:Addr}{o:HO}{t':Nat}(I:Inv X pins σ H s)(mu:Mut (H x))(he:e=x∨H e=some (.own x))(k:∀b u,b≠e→s.heap.get? b=some u→h'.get? b=some u)(heo:∃u,h'.get? e=some u)
 (new:ObjOk X.prog X.w (upd H x o) h' x o):Inv X pins σ (upd H x o) {s with heap:=h',toks:=t'}:=I.un (Un.write mu he k heo) (I.hok.write mu he k heo new)
theorem Inv.weak{σ':List (Option V)}(I:Inv X pins σ H s)(hl:σ'.length=σ.length)(w:∀(i:Nat) v,σ'[i]? =some (some v)→σ[i]? =some (some v)):Inv X pins σ' H s:=
 ⟨I.ok,I.os,I.bare,I.base,let⟨m,hn,hl'⟩:=I.loc;⟨m,hn,fun i x v e1 e2 e3=>hl' i x v e1 (w i v e2) e3⟩,I.cell,I.free,I.freeC,I.pin,I.hok,hl.trans I.len⟩
theorem Inv.pins_of{pins':List (Addr×Obj)}(I:Inv X pins σ H s)(h:∀p∈pins',s.heap.get? p.1=some p.2∧H p.1=none∧p.1≠X.env.locals∧p.1∉X.fs∧∀v,p.2.data≠ .cell v):Inv X pins' σ H s:=
 ⟨I.ok,I.os,I.bare,I.base,I.loc,I.cell,I.free,I.freeC,fun p hp=>(List.mem_append.mp hp).elim (fun z=>I.pin p (List.mem_append_left _ z)) (h p),I.hok,I.len⟩
theorem qo{N:List Str}(hN:N.Nodup){i j:Nat}{x:Str}(a:N[i]? =some x)(b:N[j]? =some x):i=j:=by
 obtain⟨h1,e1⟩:=List.getElem?_eq_some_iff.mp a
 obtain⟨h2,e2⟩:=List.getElem?_eq_some_iff.mp b
 exact(List.getElem_inj hN).mp (e1.trans e2.symm)
theorem nY{M:Model}{A:Around}{E:Value→Shared→Prop}{i:Nat}{x:Str}{v:V}{u:Value}{Q:Unit→Shared→Prop}(I:Inv X pins σ H s)(hN:X.N.Nodup)(hi:X.N[i]? =some x)(hx:Loc X.env.scope x)(r:RelV v u)
 (h:∀s',Inv X pins (σ.set i (some v)) H s'→(∃a,Heap.SameBut a s.heap s'.heap∧(a=X.env.locals∨X.env.cells.lookup x=some a))→Q () s')(hf:X.fn x=true∨X.env.scope.names.lookup x=some .local:=by first|exact .inl rfl|exact .inr rfl|assumption):wpAny M A (storeName X.env x u) Q E s:=by
 obtain⟨m,hn,hl⟩:=id I.loc
 have hcls:(X.env.scope.kind== .class||(X.env.scope.kind== .module&&X.env.locals != X.env.globals))=false:=by rw[I.ok.kind];rfl
 have hiσ:i<σ.length:=by rw[I.len];exact(List.getElem?_eq_some_iff.mp hi).1
 have cne:=I.cne
 have tracked:∀{a:Addr} {h':Heap},(∃o,s.heap.get? a=some o∧H a=none)→Heap.SameBut a s.heap h'→HOk X.prog X.w H h':=fun {a h'} ha hs b ob e=>by
  obtain⟨_,_,hfree⟩:=ha
  refine(I.hok b ob e).stay (fun c w' hc q=>(hs.2 c ?_).trans q) (fun _ q=>q) fun _ _ q=>q
  rintro rfl
  rcases hc with rfl|hc
  · rw[hfree] at e;cases e
  · rw[hfree] at hc;cases hc
 rcases hx with hk|hk
 · refine wpAny_storeName_local hk hn (fun h' hn' hs=> ?_) hcls
   obtain⟨oL,_,_,hoL,_⟩:=id hn
   refine h _ ⟨I.ok,I.os,I.bare,⟨fun b o e n hb hx=> ?_,fun b o e n hb hx=> ?_,I.base.free,fun b o e hx=> ?_,I.base.tups,I.base.frzs,I.base.tbls⟩,⟨_,hn',fun j y v' e1 e2 e3=> ?_⟩,fun y c e=> ?_,I.free,I.freeC,fun p hp=> ?_,tracked ⟨oL,hoL,I.free⟩ hs,by simpa using I.len⟩ ⟨_,hs, .inl rfl⟩
   · exact(hs.2 b (Nat.ne_of_lt (Nat.lt_of_lt_of_le (Heap.lt_size e) I.ok.above))).trans (I.base.keep b o e n hb hx)
   · obtain⟨sl,e1⟩:=I.base.slot b o e n hb hx
     exact⟨sl,(hs.2 b (Nat.ne_of_lt (Nat.lt_of_lt_of_le (Heap.lt_size e) I.ok.above))).trans e1⟩
   · obtain⟨o',e1⟩:=I.base.there b o e hx
     exact⟨o',(hs.2 b (Nat.ne_of_lt (Nat.lt_of_lt_of_le (Heap.lt_size e) I.ok.above))).trans e1⟩
   · by_cases hj:j=i
     · subst hj
       rw[hi] at e1;cases e1
       rw[List.getElem?_set_self hiσ] at e2
       cases e2
       exact⟨u,r, .inl ⟨hk,by simp⟩⟩
     · rw[List.getElem?_set_ne (Ne.symm hj)] at e2
       obtain⟨u',r',q⟩:=hl j y v' e1 e2 e3
       refine⟨u',r', ?_⟩
       rcases q with⟨k,e⟩|⟨k,c,e,z⟩
       · refine .inl ⟨k, ?_⟩
         have:y≠x:=fun e=>hj (qo hN e1 (e▸hi))
         simp[this,e]
       · exact .inr ⟨k,c,e,z.sameBut hs (cne y c e)⟩
   · obtain⟨w',z⟩:=I.cell y c e
     exact⟨w',z.sameBut hs (cne y c e)⟩
   · obtain⟨e,n,ne,nf,d⟩:=I.pin p hp
     exact⟨(hs.2 p.1 ne).trans e,n,ne,nf,d⟩
 · have hfn:X.fn x=true:=by
    rcases hf with z|z
    · exact z
    · rw[z] at hk;cases hk
   obtain⟨c,hc⟩:=I.ok.has x (.inl hk)
   obtain⟨w',z⟩:=I.cell x c hc
   refine wpAny_storeName_cell I.ok.kind hk hc z (fun h' hc' hs=> ?_)
   obtain⟨oc,hoc,hocd⟩:=id z
   refine h {s with heap:=h'} ⟨I.ok,I.os,I.bare,⟨fun b o e n hb hx=> ?_,fun b o e n hb hx=> ?_,I.base.free,fun b o e hx=> ?_,I.base.tups,I.base.frzs,I.base.tbls⟩,⟨m,hn.sameBut hs (Ne.symm (cne x c hc)),fun j y v' e1 e2 e3=> ?_⟩,fun y c' e=> ?_,I.free,I.freeC,fun p hp=> ?_,tracked ⟨oc,hoc,I.freeC x c hc⟩ hs,by simpa using I.len⟩ ⟨c,hs, .inr hc⟩
   · exact(hs.2 b (Nat.ne_of_lt (Nat.lt_of_lt_of_le (Heap.lt_size e) (I.ok.cab x c hfn hc)))).trans (I.base.keep b o e n hb hx)
   · obtain⟨sl,e1⟩:=I.base.slot b o e n hb hx
     exact⟨sl,(hs.2 b (Nat.ne_of_lt (Nat.lt_of_lt_of_le (Heap.lt_size e) (I.ok.cab x c hfn hc)))).trans e1⟩
   · obtain⟨o',e1⟩:=I.base.there b o e hx
     exact⟨o',(hs.2 b (Nat.ne_of_lt (Nat.lt_of_lt_of_le (Heap.lt_size e) (I.ok.cab x c hfn hc)))).trans e1⟩
   · by_cases hj:j=i
     · subst hj
       rw[hi] at e1;cases e1
       rw[List.getElem?_set_self hiσ] at e2
       cases e2
       exact⟨u,r, .inr ⟨.inl hk,c,hc,hc'⟩⟩
     · rw[List.getElem?_set_ne (Ne.symm hj)] at e2
       obtain⟨u',r',q⟩:=hl j y v' e1 e2 e3
       refine⟨u',r', ?_⟩
       rcases q with q|⟨k,c',e,z'⟩
       · exact .inl q
       · refine .inr ⟨k,c',e,z'.sameBut hs ?_⟩
         rintro rfl
         exact hj (qo hN e1 (I.ok.inj _ _ _ e hc▸hi))
   · by_cases hcc:c'=c
     · subst hcc;exact⟨_,hc'⟩
     · obtain⟨w2,z2⟩:=I.cell y c' e
       exact⟨w2,z2.sameBut hs hcc⟩
   · obtain⟨e,n,ne,nf,d⟩:=I.pin p hp
     refine⟨(hs.2 p.1 ?_).trans e,n,ne,nf,d⟩
     intro q
     rw[q,hoc] at e
     have q':oc=p.2:=Option.some.inj e
     exact d w' (by rw[←q'];exact hocd)
theorem qp{M:Model}{A:Around}{E:Value→Shared→Prop}{i:Nat}{x:Str}{v:V}{u:Value}{Q:Unit→Shared→Prop}(I:Inv X pins σ H s)(hN:X.N.Nodup)(hi:X.N[i]? =some x)(hx:Loc X.env.scope x)(r:RelV v u)
 (h:∀s',Inv X pins (σ.set i (some v)) H s'→Q () s')(hf:X.fn x=true∨X.env.scope.names.lookup x=some .local:=by first|exact .inl rfl|exact .inr rfl|assumption):wpAny M A (storeName X.env x u) Q E s:=
 nY I hN hi hx r (fun s' I' _=>h s' I') hf
theorem Inv.call'{s':Shared}{ch:List Addr}(I:Inv X pins σ H s)(ho:s'.os=s.os)(u:Un (frs X.stack) ch H H' s.heap s'.heap)(hok:HOk X.prog X.w H' s'.heap)(hg:AllBare s'.gens)
 (hch:∀b∈ch,(b∈X.ex∨X.s₀.heap.objs.size≤b)∧b≠X.env.locals∧(∀x c,X.env.cells.lookup x=some c→c≠b)∧∀p∈X.pn++pins,p.1≠b):Inv X pins σ H' s':=by
 obtain⟨h',g',d',t',o'⟩:=s'
 have e:o'=s.os:=ho
 subst e
 exact I.call (g':=g') (t':=t') (d':=d') u hok hg hch
end
abbrev XK:=Value→Option Addr→Hp→Prop
abbrev St:=List (Option V)
abbrev VK:=V→Hp→Prop
abbrev TE:=St→Hp→VK→Prop
abbrev TT:=St→Hp→(Bool→Hp→Prop)→Prop
abbrev TA:=St→Hp→(List V→Hp→Prop)→Prop
structure Ends where
 nx:St→Hp→Prop
 rt:VK
 bk:St→Hp→Prop:=fun _ _=>False
 ct:St→Hp→Prop:=fun _ _=>False
abbrev TS:=Ends→St→Hp→Prop
def EP(X:Cx)(pins:List (Addr×Obj))(σ:St)(Q:VK)(u:Value)(s':Shared):Prop:=∃v H',Inv X pins σ H' s'∧RelV v u∧Q v H'
def TP(X:Cx)(pins:List (Addr×Obj))(σ:St)(Q:Bool→Hp→Prop)(b:Bool)(s':Shared):Prop:=∃H',Inv X pins σ H' s'∧Q b H'
def AP(X:Cx)(pins:List (Addr×Obj))(σ:St)(Q:List V→Hp→Prop)(us:List Value)(s':Shared):Prop:=∃vs H',Inv X pins σ H' s'∧Vals vs us∧Q vs H'
def SP(X:Cx)(pins:List (Addr×Obj))(D:Ends)(f:Flow)(s':Shared):Prop:=
 match f with
 | .next=>∃σ' H',Inv X pins σ' H' s'∧D.nx σ' H'
 | .brk=>∃σ' H',Inv X pins σ' H' s'∧D.bk σ' H'
 | .cont=>∃σ' H',Inv X pins σ' H' s'∧D.ct σ' H'
 | .ret u=>∃v σ' H',Inv X pins σ' H' s'∧RelV v u∧D.rt v H'
def PE(X:Cx)(e:Expr)(t:TE):Prop:=
 ∀(pins:List (Addr×Obj)) (s:Shared) (σ:St) (H:Hp) (Q:VK),Inv X pins σ H s→t σ H Q→wpAny (model X.prog X.w) X.A (eval e X.env) (EP X pins σ Q) X.xe s
def PT(X:Cx)(e:Expr)(t:TT):Prop:=
 ∀(pins:List (Addr×Obj)) (s:Shared) (σ:St) (H:Hp) (Q:Bool→Hp→Prop),Inv X pins σ H s→t σ H Q→wpAny (model X.prog X.w) X.A (isTrue e X.env (eval e X.env)) (TP X pins σ Q) X.xe s
def PW(X:Cx)(e:Expr)(t:TT):Prop:=
 ∀(whole:Sem Value) (pins:List (Addr×Obj)) (s:Shared) (σ:St) (H:Hp) (Q:Bool→Hp→Prop),Inv X pins σ H s→t σ H Q→wpAny (model X.prog X.w) X.A (isTrue e X.env whole) (TP X pins σ Q) X.xe s
theorem PW.pt{X:Cx}{e:Expr}{t:TT}(h:PW X e t):PT X e t:=h _
def PA(X:Cx)(es:List Expr)(t:TA):Prop:=
 ∀(pos:Pos) (pins:List (Addr×Obj)) (s:Shared) (σ:St) (H:Hp) (Q:List V→Hp→Prop),Inv X pins σ H s→t σ H Q→wpAny (model X.prog X.w) X.A (spliced (backTo pos (starEach es X.env))) (AP X pins σ Q) X.xe s
def PS(X:Cx)(st:Stmt)(t:TS):Prop:=
 ∀(pins:List (Addr×Obj)) (s:Shared) (σ:St) (H:Hp) (D:Ends),Inv X pins σ H s→t D σ H→wpAny (model X.prog X.w) X.A (exec st X.env) (SP X pins D) X.xe s
def PSs(X:Cx)(st:List Stmt)(t:TS):Prop:=
 ∀(pins:List (Addr×Obj)) (s:Shared) (σ:St) (H:Hp) (D:Ends),Inv X pins σ H s→t D σ H→wpAny (model X.prog X.w) X.A (execs st X.env) (SP X pins D) X.xe s
theorem thn{α:Type}{t:Sem α}{Q Q':α→Shared→Prop}{M:Model}{A:Around}{E:Value→Shared→Prop}{s:Shared}(h:wpAny M A t Q E s)(hQ:∀a s,Q a s→Q' a s):wpAny M A t Q' E s:=wpAny_mono h hQ fun _ _ x=>x
end L2
namespace L2
open PySem PySem.Spec PyProof.Rows
section
variable{X:Cx}
def hV(i:Nat):TE:=fun σ H Q=>∃v,σ[i]? =some (some v)∧Q v H
def tC(v:V):TE:=fun _ H Q=>Q v H
theorem yt{i:Nat}{x:Str}{pos:Pos}(hN:X.N[i]? =some x)(hv:Vis X.env.scope x)(hd:(x==("__debug__":Str))=false:=by decide)(hcd:(x==("__classdict__":Str))=false:=by decide):PE X (.Name x pos) (hV i):=by
 intro pins s σ H Q I h
 obtain⟨v,e,h⟩:=h
 obtain⟨m,hn,hl⟩:=I.loc
 obtain⟨u,r,l⟩:=hl i x v hN e hv
 have fin:EP X pins σ Q u s:=⟨v,H,I,r,h⟩
 rcases l with⟨hk,hm⟩|⟨hk,c,hc,hcell⟩
 · exact wpAny_Name (wpAny_loadName_local I.ok.kind hk hn hm fin) hd
 · rcases hk with hk|hk
   · exact wpAny_Name (wpAny_loadName_cell I.ok.kind hk hc hcell fin) hd
   · exact wpAny_Name (wpAny_loadName_free I.ok.kind hk hc hcell fin hcd) hd
theorem aR{i j pos}:PE X (.Constant (.int i) j pos) (tC (.int i)):=fun _ _ _ H _ I h=>wpAny_Constant_int ⟨.int i,H,I.tok _,⟨_,rfl⟩,h⟩
theorem hJ{b j pos}:PE X (.Constant (.bool b) j pos) (tC (.bl b)):=fun _ _ _ H _ I h=>Constant_bool ⟨.bl b,H,I,rfl,h⟩
theorem oX{j pos}:PE X (.Constant .none j pos) (tC .non):=fun _ _ _ H _ I h=>Constant_none ⟨.non,H,I,rfl,h⟩
theorem jd{x j pos}:PE X (.Constant (.str x) j pos) (tC (.str x)):=fun _ _ _ H _ I h=>Calls.Constant_str ⟨.str x,H,I.tok _,⟨_,rfl⟩,h⟩
def Gl(X:Cx)(x:Str):Prop:=X.env.kindOf x=some .globalImplicit
theorem oY{E:Value→Shared→Prop}{pins:List (Addr×Obj)}{s:Shared}{σ:St}{H:Hp}{x:Str}{u:Value}{pos:Pos}{Q:Value→Shared→Prop}(I:Inv X pins σ H s)(hg:Gl X x)(hm:X.mg x=some u)(h:Q u s)
 (hd:(x==("__debug__":Str))=false:=by decide):wpAny (model X.prog X.w) X.A (eval (.Name x pos) X.env) Q E s:=
 Calls.Name_function_global I.ok.kind hg (Calls.loadGlobal_global (by rw[I.ok.glob];exact I.mod.glob.keeps I.bk) hm h) hd
theorem io{E:Value→Shared→Prop}{pins:List (Addr×Obj)}{s:Shared}{σ:St}{H:Hp}{x:Str}{u:Value}{pos:Pos}{Q:Value→Shared→Prop}(I:Inv X pins σ H s)(hg:Gl X x)(hm:X.mg x=none)(hv:bootBuiltins x=some u)(h:Q u s)
 (hn:x≠"__name__":=by decide)(hd:(x==("__debug__":Str))=false:=by decide):wpAny (model X.prog X.w) X.A (eval (.Name x pos) X.env) Q E s:=by
 obtain⟨mb,h1,h2⟩:=I.mod.blt
 exact Calls.Name_function_global I.ok.kind hg (Calls.loadGlobal_builtin (by rw[I.ok.glob];exact I.mod.glob.keeps I.bk) hm (by rw[I.ok.blt];exact h1.keeps I.bk) ((h2 x hn).trans hv) h) hd
theorem r9{x:Str}{v:V}{u:Value}{pos:Pos}(hg:Gl X x)(hm:X.mg x=some u)(r:RelV v u)(hd:(x==("__debug__":Str))=false:=by decide):PE X (.Name x pos) (tC v):=
 fun _ _ _ H _ I h=>oY I hg hm ⟨v,H,I,r,h⟩ hd
theorem eO{x:Str}{v:V}{u:Value}{pos:Pos}(hg:Gl X x)(hm:X.mg x=none)(hv:bootBuiltins x=some u)(r:RelV v u)(hn:x≠"__name__":=by decide)(hd:(x==("__debug__":Str))=false:=by decide):PE X (.Name x pos) (tC v):=
 fun _ _ _ H _ I h=>io I hg hm hv ⟨v,H,I,r,h⟩ hn hd
variable{a b:Expr}{ta tb:TE}{pos:Pos}
def tB(t:TE):TT:=fun σ H Q=>t σ H fun x H1=>∃c,x= .bl c∧Q c H1
theorem da{e:Expr}{t:TE}(h:PE X e t)(he:∀whole,isTrue e X.env whole=(do let v ←whole;standAt e.pos;holding [v] (truthy v)):=by intro _;rfl):PT X e (tB t):=by
 intro pins s σ H Q I hw
 refine isTrue_plain (thn (h pins s σ H _ I hw) fun v s1 ⟨x,H1,I1,r1,q1⟩=> ?_) (he _)
 obtain⟨d,rfl,q⟩:=q1
 cases r1
 exact wpAny_truthy_bool ⟨H1,I1,q⟩
variable{tA tB':TT}{gU:List Expr}
def zO(t u:TT):TT:=fun σ H Q=>t σ H fun c H1=>if c=true then u σ H1 Q else Q false H1
def tOr(t u:TT):TT:=fun σ H Q=>t σ H fun c H1=>if c=true then Q true H1 else u σ H1 Q
def zP(t:TT):TT:=fun σ H Q=>t σ H fun c H1=>Q (!c) H1
theorem ka(ha:PT X a tA):PW X (.BoolOp .And [a] pos) tA:=by
 intro wh pins s σ H Q I h
 refine isTrue_and (thn (ha pins s σ H Q I h) fun c s1 e=> ?_)
 cases c with
 |true=>exact isTrue_and_nil e
 |false=>exact e
theorem ut(ha:PT X a tA):PW X (.BoolOp .Or [a] pos) tA:=by
 intro wh pins s σ H Q I h
 refine isTrue_or (thn (ha pins s σ H Q I h) fun c s1 e=> ?_)
 cases c with
 |false=>exact isTrue_or_nil e
 |true=>exact e
theorem mE(ha:PT X a tA)(hb:PW X (.BoolOp .And (b::gU) pos) tB'):PW X (.BoolOp .And (a::b::gU) pos) (zO tA tB'):=by
 intro wh pins s σ H Q I h
 refine isTrue_and (thn (ha pins s σ H _ I h) fun c s1 ⟨H1,I1,q1⟩=> ?_)
 cases c with
 |true=>exact hb wh pins s1 σ H1 Q I1 q1
 |false=>exact⟨H1,I1,q1⟩
theorem xK(ha:PT X a tA)(hb:PW X (.BoolOp .Or (b::gU) pos) tB'):PW X (.BoolOp .Or (a::b::gU) pos) (tOr tA tB'):=by
 intro wh pins s σ H Q I h
 refine isTrue_or (thn (ha pins s σ H _ I h) fun c s1 ⟨H1,I1,q1⟩=> ?_)
 cases c with
 |true=>exact⟨H1,I1,q1⟩
 |false=>exact hb wh pins s1 σ H1 Q I1 q1
theorem ip(ha:PT X a tA):PT X (.UnaryOp .Not a pos) (zP tA):=by
 intro pins s σ H Q I h
 exact isTrue_not (ha pins s σ H (fun c H1=>Q (!c) H1) I h)
def xL(ta tb:TE):TE:=fun σ H Q=>ta σ H fun x H1=>∃c,x= .bl c∧if c=true then tb σ H1 Q else Q (.bl false) H1
theorem mF{op}{t:TE}(h:PE X a t):PE X (.BoolOp op [a] pos) t:=fun pins s σ H Q I hw=>BoolOp_one (h pins s σ H Q I hw)
theorem kM(ha:PE X a ta)(hb:PE X (.BoolOp .And (b::gU) pos) tb):PE X (.BoolOp .And (a::b::gU) pos) (xL ta tb):=by
 intro pins s σ H Q I h
 refine BoolOp_and (thn (ha pins s σ H _ I h) fun v s1 ⟨x,H1,I1,r1,q1⟩=> ?_)
 obtain⟨c,rfl,q1⟩:=q1
 cases r1
 refine wpAny_truthy_bool ?_
 cases c with
 |true=>exact hb pins s1 σ H1 Q I1 q1
 |false=>exact⟨.bl false,H1,I1,rfl,q1⟩
def tIf(t:TT)(ta tb:TE):TE:=fun σ H Q=>t σ H fun c H1=>if c=true then ta σ H1 Q else tb σ H1 Q
theorem uu{c:Expr}(hc:PT X c tA)(ha:PE X a ta)(hb:PE X b tb):PE X (.IfExp c a b pos) (tIf tA ta tb):=by
 intro pins s σ H Q I h
 refine wpAny_IfExp (thn (hc pins s σ H _ I h) fun d s1 ⟨H1,I1,q1⟩=> ?_)
 cases d with
 |true=>exact ha pins s1 σ H1 Q I1 q1
 |false=>exact hb pins s1 σ H1 Q I1 q1
end
def SqL(K:W.Frag)(H:Hp)(a:Addr)(xs:List V):Prop:=
 Rd H a (.lst xs)∨
  ∃(o:Obj) (its:Array Value) (n:Nat),K.lookup a=some o∧o.cls= .type "list"∧o.dict=none∧o.data= .seq its n∧its.size≤sizeLine∧Vals xs its.toList
def SqT(K:W.Frag)(H:Hp)(a:Addr)(xs:List V):Prop:=
 Rd H a (.tup xs)∨
  ∃(o:Obj) (its:Array Value) (n:Nat),K.lookup a=some o∧o.cls= .type "tuple"∧o.data= .seq its n∧its.size≤sizeLine∧Vals xs its.toList
def AV:Value→Option V
 | .none=>some .non
 | .bool b=>some (.bl b)
 | .int i _=>some (.int i)
 | .str x _=>some (.str x)
 | .bytes b _=>some (.byt b)
 | .float b _=>some (.flt b)
 | .ref a=>some (.ref a)
 | .type n=>some (.ty n)
 |_=>none
theorem RelV.abs{x:V}{u:Value}(r:RelV x u):AV u=some x:=by
 cases x with
 |non=>cases r;rfl
 |bl _=>cases r;rfl
 |int _=>obtain⟨t,rfl⟩:=r;rfl
 |str _=>obtain⟨t,rfl⟩:=r;rfl
 |byt _=>obtain⟨t,rfl⟩:=r;rfl
 |flt _=>obtain⟨t,rfl⟩:=r;rfl
 |ref _=>cases r;rfl
 |ty _=>cases r;rfl
theorem RelV.inj{x y:V}{u:Value}(r:RelV x u)(q:RelV y u):x=y:=Option.some.inj (r.abs.symm.trans q.abs)
theorem Vals.inj:∀{xs ys:List V} {us:List Value},Vals xs us→Vals ys us→xs=ys
 |_,_,_, .nil, .nil=>rfl
 |_,_,_, .cons r t, .cons r' t'=>by rw[r.inj r',Vals.inj t t']
section
variable{X:Cx}{pins:List (Addr×Obj)}{σ:St}{H:Hp}{s:Shared}{a:Addr}{xs ys:List V}
theorem SqL.of{K:W.Frag}(h:H a=some (.lst xs)):SqL K H a xs:= .inl (.inl h)
theorem SqT.of{K:W.Frag}(h:H a=some (.tup xs)):SqT K H a xs:= .inl (.inl h)
theorem Inv.list(I:Inv X pins σ H s)(h:SqL X.K H a xs):∃its:List Value,Vals xs its∧PlainL s.heap a its.toArray∧xs.length≤sizeLine:=by
 rcases h with h|⟨o,its,n,hk,hc,hd,hs,hz,r⟩
 · obtain⟨z,its,n,r,e⟩:=h.ok I.hok
   exact⟨its,r,⟨_,n,e,rfl,rfl,rfl⟩,z⟩
 · refine⟨its.toList,r,⟨o,n,I.kIn a o hk,hc,hd,by simpa using hs⟩, ?_⟩
   have e:=r.length
   simp only[Array.length_toList] at e
   omega
theorem Inv.tuple(I:Inv X pins σ H s)(h:SqT X.K H a xs):∃its:List Value,Vals xs its∧IsTup s.heap a its.toArray∧xs.length≤sizeLine:=by
 rcases h with h|⟨o,its,n,hk,hc,hs,hz,r⟩
 · obtain⟨z,its,r,p⟩:=h.ok I.hok
   exact⟨its,r,p,z⟩
 · refine⟨its.toList,r,⟨o,I.kIn a o hk,hc,n,by simpa using hs⟩, ?_⟩
   have e:=r.length
   simp only[Array.length_toList] at e
   omega
theorem Inv.list_inj(I:Inv X pins σ H s)(h:SqL X.K H a xs)(h':SqL X.K H a ys):xs=ys:=by
 obtain⟨its,r,⟨o,n,e,_,_,d⟩,_⟩:=I.list h
 obtain⟨its',r',⟨o',n',e',_,_,d'⟩,_⟩:=I.list h'
 rw[e] at e';cases e'
 rw[d] at d'
 injection d' with d1 _
 have:its=its':=by simpa using congrArg Array.toList d1
 subst this
 exact r.inj r'
theorem Inv.tuple_inj(I:Inv X pins σ H s)(h:SqT X.K H a xs)(h':SqT X.K H a ys):xs=ys:=by
 obtain⟨its,r,⟨o,e,_,n,d⟩,_⟩:=I.tuple h
 obtain⟨its',r',⟨o',e',_,n',d'⟩,_⟩:=I.tuple h'
 rw[e] at e';cases e'
 rw[d] at d'
 injection d' with d1 _
 have:its=its':=by simpa using congrArg Array.toList d1
 subst this
 exact r.inj r'
end
abbrev Cx.wish(X:Cx)(E:Value→Shared→Prop):Cx:={X with xe:=E}
abbrev Cx.nox(X:Cx):Cx:=X.wish fun _ _=>False
theorem Cx.Ok.wish{X:Cx}(ok:X.Ok)(E:Value→Shared→Prop):(X.wish E).Ok:=
 ⟨ok.mod,ok.kind,ok.glob,ok.blt,ok.above,ok.inj,ok.has,ok.cab,ok.hd,ok.frames,ok.stk,ok.exf,ok.bs,ok.bsz,ok.noex,ok.exfs,ok.funs,ok.frf⟩
theorem Cx.Ok.unwish{X:Cx}{E:Value→Shared→Prop}(ok:(X.wish E).Ok):X.Ok:=
 ⟨ok.mod,ok.kind,ok.glob,ok.blt,ok.above,ok.inj,ok.has,ok.cab,ok.hd,ok.frames,ok.stk,ok.exf,ok.bs,ok.bsz,ok.noex,ok.exfs,ok.funs,ok.frf⟩
section
variable{X:Cx}{pins:List (Addr×Obj)}{σ:St}{H:Hp}{s:Shared}{E:Value→Shared→Prop}
theorem Inv.wish(I:Inv X pins σ H s)(E:Value→Shared→Prop):Inv (X.wish E) pins σ H s:=⟨I.ok.wish E,I.os,I.bare,I.base,I.loc,I.cell,I.free,I.freeC,I.pin,I.hok,I.len⟩
theorem Inv.unwish(I:Inv (X.wish E) pins σ H s):Inv X pins σ H s:=⟨I.ok.unwish,I.os,I.bare,I.base,I.loc,I.cell,I.free,I.freeC,I.pin,I.hok,I.len⟩
theorem SP.unwish{D:Ends}{f:Flow}{s':Shared}(h:SP (X.wish E) pins D f s'):SP X pins D f s':=by
 cases f with
 |next=>obtain⟨σ',H',I,q⟩:=h;exact⟨σ',H',I.unwish,q⟩
 |brk=>obtain⟨σ',H',I,q⟩:=h;exact⟨σ',H',I.unwish,q⟩
 |cont=>obtain⟨σ',H',I,q⟩:=h;exact⟨σ',H',I.unwish,q⟩
 |ret u=>obtain⟨v,σ',H',I,r,q⟩:=h;exact⟨v,σ',H',I.unwish,r,q⟩
theorem PE.nox{e:Expr}{t:TE}(h:PE X.nox e t):PE X e t:=fun pins s σ H Q I hw=>
 wpAny_mono (h pins s σ H Q (I.wish _) hw) (fun _ _ ⟨v,H',I',r,q⟩=>⟨v,H',I'.unwish,r,q⟩) fun _ _ z=>False.elim z
theorem PT.nox{e:Expr}{t:TT}(h:PT X.nox e t):PT X e t:=fun pins s σ H Q I hw=>
 wpAny_mono (h pins s σ H Q (I.wish _) hw) (fun _ _ ⟨H',I',q⟩=>⟨H',I'.unwish,q⟩) fun _ _ z=>False.elim z
theorem PSs.nox{st:List Stmt}{t:TS}(h:PSs X.nox st t):PSs X st t:=fun pins s σ H D I hw=>
 wpAny_mono (h pins s σ H D (I.wish _) hw) (fun _ _ q=>q.unwish) fun _ _ z=>False.elim z
end
section
variable{X:Cx}{st:Stmt}{gU:List Stmt}{t u:TS}{e:Expr}{te:TE}{pos:Pos}
def uv:TS:=fun D σ H=>D.nx σ H
def iP(t u:TS):TS:=fun D σ H=>t {D with nx:=u D} σ H
theorem cy:PSs X [] uv:=fun _ _ σ H _ I h=>wpAny_execs_nil ⟨σ,H,I,h⟩
theorem aC(h1:PS X st t)(h2:PSs X gU u):PSs X (st::gU) (iP t u):=by
 intro pins s σ H D I h
 refine wpAny_execs_cons (thn (h1 pins s σ H {D with nx:=u D} I h) fun f s1 q=> ?_)
 cases f with
 |next=>
  obtain⟨σ',H',I',q⟩:=q
  exact h2 pins s1 σ' H' D I' q
 |ret v=>exact q
 |brk=>exact q
 |cont=>exact q
theorem be(h1:PS X st t):PSs X [st] t:=by
 intro pins s σ H D I h
 refine wpAny_execs_cons (thn (h1 pins s σ H D I h) fun f s1 q=> ?_)
 cases f with
 |next=>exact wpAny_execs_nil q
 |ret v=>exact q
 |brk=>exact q
 |cont=>exact q
theorem Inv.quiet{pins:List (Addr×Obj)}{σ:St}{H:Hp}{s:Shared}(I:Inv X pins σ H s):interactive X.env=false:=by simp[interactive,I.ok.kind]
def iZ(te:TE):TS:=fun D σ H=>te σ H fun _ H1=>D.nx σ H1
theorem dq(he:PE X e te)(hs:swapsWith e none pos.line X.env=pure false:=by rfl):PS X (.Expr e pos) (iZ te):=by
 intro pins s σ H D I h
 exact wpAny_Expr_any (thn (he pins s σ H _ I h) fun v s1 ⟨x,H1,I1,r1,q1⟩=>⟨σ,H1,I1,q1⟩) I.quiet hs
def tN(te:TE):TS:=fun D σ H=>te σ H D.rt
theorem bR(he:PE X e te):PS X (.Return (some e) pos) (tN te):=by
 intro pins s σ H D I h
 exact wpAny_Return_some (thn (he pins s σ H _ I h) fun v s1 ⟨x,H1,I1,r1,q1⟩=>⟨x,σ,H1,I1,r1,q1⟩)
def yu(c:TT)(t u:TS):TS:=fun D σ H=>c σ H fun b H1=>if b=true then t D σ H1 else u D σ H1
theorem dZ{c:Expr}{a b:List Stmt}{tc:TT}(hc:PT X c tc)(ha:PSs X a t)(hb:PSs X b u):PS X (.If c a b pos) (yu tc t u):=by
 intro pins s σ H D I h
 refine wpAny_If (thn (hc pins s σ H _ I h) fun d s1 ⟨H1,I1,q1⟩=> ?_)
 cases d with
 |true=>exact ha pins s1 σ H1 D I1 q1
 |false=>exact hb pins s1 σ H1 D I1 q1
end
abbrev TG:=V→St→Hp→(St→Hp→Prop)→Prop
abbrev TGs:=List V→St→Hp→(St→Hp→Prop)→Prop
def PG(X:Cx)(target:Expr)(t:TG):Prop:=
 ∀(pins:List (Addr×Obj)) (s:Shared) (σ:St) (H:Hp) (v:V) (u:Value) (Q:St→Hp→Prop),Inv X pins σ H s→RelV v u→t v σ H Q→
  wpAny (model X.prog X.w) X.A (assign target X.env u) (fun _ s'=>∃σ' H',Inv X pins σ' H' s'∧Q σ' H') X.xe s
def PGs(X:Cx)(ts:List Expr)(t:TGs):Prop:=
 ∀(pins:List (Addr×Obj)) (s:Shared) (σ:St) (H:Hp) (vs:List V) (us:List Value) (Q:St→Hp→Prop),Inv X pins σ H s→Vals vs us→t vs σ H Q→
  wpAny (model X.prog X.w) X.A (assignInOrder ((assignEach ts X.env).map (·.2)) us) (fun _ s'=>∃σ' H',Inv X pins σ' H' s'∧Q σ' H') X.xe s
section
variable{X:Cx}{pos:Pos}
def iq(i:Nat):TG:=fun v σ H Q=>Q (σ.set i (some v)) H
theorem cz{i:Nat}{x:Str}(hN:X.N.Nodup)(hi:X.N[i]? =some x)(hx:Loc X.env.scope x)(hf:X.fn x=true∨X.env.scope.names.lookup x=some .local:=by first|exact .inl rfl|exact .inr rfl|assumption):PG X (.Name x pos) (iq i):=by
 intro pins s σ H v u Q I r h
 exact wpAny_assign_Name (qp I hN hi hx r (fun s' I'=>⟨_,H,I',h⟩) hf)
def yw:TGs:=fun vs σ H Q=>vs=[]∧Q σ H
def uw(t:TG)(u:TGs):TGs:=fun vs σ H Q=>∃v r,vs=v::r∧t v σ H fun σ' H'=>u r σ' H' Q
theorem kb:PGs X [] yw:=by
 intro pins s σ H vs us Q I r h
 obtain⟨e,h⟩:=h
 subst e
 cases r
 exact assignInOrder_nil ⟨σ,H,I,h⟩
theorem ff{e:Expr}{es:List Expr}{t:TG}{u:TGs}(h1:PG X e t)(h2:PGs X es u)
 (hs:(assignEach (e::es) X.env).map (·.2)=assign e X.env::(assignEach es X.env).map (·.2):=by rfl):PGs X (e::es) (uw t u):=by
 intro pins s σ H vs us Q I r h
 obtain⟨v,vr,e1,h⟩:=h
 subst e1
 cases r with
 |cons r rr=>
  rw[hs]
  refine assignInOrder_cons (thn (h1 pins s σ H _ _ _ I r h) fun _ s1 ⟨σ1,H1,I1,q1⟩=> ?_)
  exact h2 pins s1 σ1 H1 _ _ Q I1 rr q1
def wn(K:W.Frag)(n:Nat)(t:TGs):TG:=fun v σ H Q=>∃a xs,v= .ref a∧SqT K H a xs∧xs.length=n∧t xs σ H Q
theorem mG{es:List Expr}{k:Nat}{t:TGs}{n:Nat}(hc:X.calm=true)(h:PGs X es t)
 (hn:(assignEach es X.env).length=n:=by rfl)(hst:(assignEach es X.env).findIdx? (·.1)=none:=by rfl):PG X (.Tuple es k pos) (wn X.K n t):=by
 intro pins s σ H v u Q I r hw
 obtain⟨a,xs,e1,hq,hl,hw⟩:=hw
 subst e1
 cases r
 obtain⟨its,rv,ht,hz⟩:=I.tuple hq
 refine assign_Tuple_tuple (I.ok.hd hc) ht (by simp[hn,←hl,rv.length]) hst fun h' hx=> ?_
 have I1:Inv X pins σ H {s with heap:=h'}:=I.kept (t':=s.toks) fun b o e=>hx b o (Nat.ne_of_lt (Heap.lt_size e)) e
 exact h pins _ σ H xs _ Q I1 (by simpa using rv) hw
def qq(te:TE)(g:TG):TS:=fun D σ H=>te σ H fun x H1=>g x σ H1 D.nx
theorem bN{i:Nat}{x:Str}{e:Expr}{te:TE}{pos':Pos}(hN:X.N.Nodup)(hi:X.N[i]? =some x)(hx:Loc X.env.scope x)(he:PE X e te)(hs:swapsWith e (some (.Name x pos')) pos.line X.env=pure false:=by rfl)(hf:X.fn x=true∨X.env.scope.names.lookup x=some .local:=by first|exact .inl rfl|exact .inr rfl|assumption):
 PS X (.Assign [.Name x pos'] e pos) (qq te (iq i)):=by
 intro pins s σ H D I h
 refine wpAny_Assign_Name (thn (he pins s σ H _ I h) fun v s1 ⟨y,H1,I1,r1,q1⟩=> ?_) hs
 exact qp I1 hN hi hx r1 (fun s2 I2=>⟨_,H1,I2,q1⟩) hf
end
section
variable{X:Cx}{pos:Pos}
def rh(c:TT)(tb:TS):TS:=fun D σ H=>∃W:Nat→St→Hp→Prop,(∃m,W m σ H)∧∀m σ H,W m σ H→
 c σ H fun b H1=>if b=true then ∃N:St→Hp→Prop,(∀σ' H',N σ' H'→∃m',m'<m∧W m' σ' H')∧tb {D with nx:=N,ct:=N,bk:=D.nx} σ H1 else D.nx σ H1
theorem qr{c:Expr}{body:List Stmt}{tc:TT}{tb:TS}(hp:PassesOwn (model X.prog X.w) X.A X.env X.xe)(hc:PT X c tc)(hb:PSs X body tb):PS X (.While c body [] pos) (rh tc tb):=by
 intro pins s σ H D I h
 obtain⟨W,⟨m0,w0⟩,turn⟩:=h
 refine wpAny_While (codeAny_whileLoop (fun n s'=>∃σ' H',Inv X pins σ' H' s'∧W n σ' H') ?_ m0 ⟨σ,H,I,w0⟩)
 rintro n s1 ⟨σ1,H1,I1,w1⟩
 refine wpAny_passesOwn hp (thn (hc pins s1 σ1 H1 _ I1 (turn n σ1 H1 w1)) fun b s2 ⟨H2,I2,q2⟩=> ?_)
 cases b with
 |true=>
  obtain⟨N,hN,q2⟩:=q2
  rw[if_pos rfl]
  refine wpAny_passesOwn hp (thn (hb pins s2 σ1 H2 _ I2 q2) fun f s3 q3=> ?_)
  cases f with
  |next=>
   obtain⟨σ3,H3,I3,n3⟩:=q3
   obtain⟨m',hm,w3⟩:=hN σ3 H3 n3
   exact⟨m',hm,σ3,H3,I3,w3⟩
  |cont=>
   obtain⟨σ3,H3,I3,n3⟩:=q3
   obtain⟨m',hm,w3⟩:=hN σ3 H3 n3
   exact⟨m',hm,σ3,H3,I3,w3⟩
  |brk=>exact q3
  |ret v=>exact q3
 |false=>
  rw[if_neg Bool.false_ne_true]
  exact wpAny_execs_nil ⟨σ1,H2,I2,q2⟩
end
structure It where
 go:Nat→Hp→Prop
 yld:Nat→Hp→V→Hp→Prop
 stop:Nat→Hp→Prop
def jU(X:Cx)(pins:List (Addr×Obj))(H:Hp)(b:Addr):Prop:=
 H b=none∧b≠X.env.locals∧b∉X.fs∧(b∈X.ex∨X.s₀.heap.objs.size≤b)∧(∀x c,X.env.cells.lookup x=some c→c≠b)∧∀p∈X.pn++pins,p.1≠b
theorem Inv.fpOk{X:Cx}{pins:List (Addr×Obj)}{σ:St}{H H':Hp}{s:Shared}{b:Addr}(I:Inv X pins σ H s)(hb:s.heap.objs.size≤b)(hn:H' b=none):jU X pins H' b:=by
 refine⟨hn,Nat.ne_of_gt (Nat.lt_of_lt_of_le I.lt hb),I.nofs hb, .inr (Nat.le_trans I.sz hb),fun x c e z=> ?_,fun p hp z=> ?_⟩
 · obtain⟨v,q⟩:=I.cell x c e
   exact absurd (Nat.lt_of_lt_of_le q.lt (by rw[z];exact hb)) (Nat.lt_irrefl _)
 · exact absurd (Nat.lt_of_lt_of_le (Heap.lt_size (I.pin p hp).1) (by rw[z];exact hb)) (Nat.lt_irrefl _)
structure Turn(P:Program)(w:World)(K:W.Frag)(tg:Expr)(J:It)(fp:List Addr)(it:Addr)(tn:Nat→Heap→Prop):Prop where
 mem:it∈fp
 obj:∀i h,tn i h→∀b∈fp,∃o,h.get? b=some o∧∀v,o.data≠ .cell v
 keep:∀i h h',tn i h→(∀b∈fp,∀o,h.get? b=some o→h'.get? b=some o)→tn i h'
 item:∀(X:Cx),X.prog=P→X.w=w→X.K=K→X.calm=true→∀(i:Nat) (pins:List (Addr×Obj)) (s:Shared) (σ:St) (H:Hp) (E:Value→Shared→Prop),Inv X pins σ H s→(∀b∈fp,jU X pins H b)→tn i s.heap→J.go i H→
  wpAny (model P w) X.A (pyNext (.ref it)) (fun r s1=>∃u,r=some u∧
   wpAny (model P w) X.A (letOwnedTupleGo tg (.ref it) u) (fun _ s2=>∃x H',Inv X pins σ H' s2∧RelV x u∧J.yld i H x H'∧tn (i+1) s2.heap∧∀b∈fp,H' b=none) E s1) E s
 done:∀(X:Cx),X.prog=P→X.w=w→X.K=K→X.calm=true→∀(i:Nat) (pins:List (Addr×Obj)) (s:Shared) (σ:St) (H:Hp) (E:Value→Shared→Prop),Inv X pins σ H s→(∀b∈fp,jU X pins H b)→tn i s.heap→J.stop i H→
  wpAny (model P w) X.A (pyNext (.ref it)) (fun r s1=>r=none∧Inv X pins σ H s1) E s
 self:∀(A:Around) (i:Nat) (s:Shared) (Q:Value→Shared→Prop) (E:Value→Shared→Prop),tn i s.heap→Q (.ref it) s→wpAny (model P w) A (pyIter (.ref it)) Q E s
abbrev TI:=St→Hp→(It→Hp→Prop)→Prop
def PIE(X:Cx)(pins:List (Addr×Obj))(σ:St)(tg:Expr)(R:It→Hp→Prop)(itv:Value)(s2:Shared):Prop:=
 ∃(it:Addr) (fp:List Addr) (tn:Nat→Heap→Prop) (J:It) (H':Hp),itv= .ref it∧Inv X pins σ H' s2∧Turn X.prog X.w X.K tg J fp it tn∧tn 0 s2.heap∧(∀b∈fp,jU X pins H' b)∧R J H'
def PI(X:Cx)(tg iter:Expr)(wi:TI):Prop:=
 ∀(pins:List (Addr×Obj)) (s:Shared) (σ:St) (H:Hp) (R:It→Hp→Prop),Inv X pins σ H s→wi σ H R→
  wpAny (model X.prog X.w) X.A (eval iter X.env) (fun v s1=>wpAny (model X.prog X.w) X.A (pyIter v) (PIE X pins σ tg R) X.xe s1) X.xe s
theorem sd{M:Model}{A:Around}{E:Value→Shared→Prop}{s:Shared}{tg:Expr}{it:Addr}{u:Value}{o:Obj}{n:String}{vs:Array Value}{Q:Unit→Shared→Prop}(ho:s.heap.get? it=some o)(hc:o.cls= .type n)(hd:o.data= .fields vs)
 (hn:["enumerate","zip","dict_itemiterator","dict_reverseitemiterator","odict_iterator","itertools.zip_longest","itertools.pairwise"].contains n=false)(hQ:Q () s):wpAny M A (letOwnedTupleGo tg (.ref it) u) Q E s:=by
 unfold letOwnedTupleGo
 cases tg<;>first
  |exact wpAny_pure hQ
  |(cases u<;>first
   |exact wpAny_pure hQ
   |(refine wpAny_bind (wpAny_load ho ?_)
     rw[hc,hd]
     show wpAny M A (if(["enumerate","zip","dict_itemiterator","dict_reverseitemiterator","odict_iterator","itertools.zip_longest","itertools.pairwise"].contains n&&vs[0]? ==some (rawInt _))=true then _ else _) Q E s
     rw[if_neg (by intro h;rw[hn,Bool.false_and] at h;cases h)]
     exact wpAny_pure hQ))
def Itl(K:W.Frag)(a:Addr):It:=
 ⟨fun i H=>∃xs x,SqL K H a xs∧xs[i]? =some x,fun i H x H'=>H'=H∧∀xs,SqL K H a xs→xs[i]? =some x,fun i H=>∃xs,SqL K H a xs∧xs.length≤i⟩
def Itt(K:W.Frag)(a:Addr):It:=
 ⟨fun i H=>∃xs x,SqT K H a xs∧xs[i]? =some x,fun i H x H'=>H'=H∧∀xs,SqT K H a xs→xs[i]? =some x,fun i H=>∃xs,SqT K H a xs∧xs.length≤i⟩
def Itr(lo:Int)(n:Nat):It:=⟨fun i _=>i<n,fun i H x H'=>H'=H∧x= .int (lo+i),fun i _=>n≤i⟩
theorem tO{P:Program}{w:World}{K:W.Frag}{tg:Expr}(a it:Addr):Turn P w K tg (Itl K a) [it] it (fun i h=>h.IsListIter it a i) where
 mem:=by simp
 obj:=fun i h st b hb=>by
  have e:b=it:=by simpa using hb
  subst e
  obtain⟨o,e,c,d⟩:=st
  exact⟨o,e,fun v z=>by rw[d] at z;cases z⟩
 keep:=fun i h h' st k=>st.at fun o e=>k it (by simp) o e
 item:=by
  intro X hP hw hK hc i pins s σ H E I hf st hg
  subst hP hw hK
  obtain⟨xs,x,hq,hx⟩:=hg
  obtain⟨its,rv,p,hz⟩:=I.list hq
  obtain⟨u,hu,ru⟩:=rv.get hx
  obtain⟨f0,f1,f2,f3,f4,f5⟩:=hf it (by simp)
  refine wpAny_pyNext_list_item st p.isList (x:=u) (by simpa using hu) fun h' st' sb=> ?_
  have I1:Inv X pins σ H {s with heap:=h'}:=I.turned (t':=s.toks) (fun b o hb e=>(sb.2 b hb).trans e) f0 f1 f3 f4 f5
  obtain⟨o,e,c,d⟩:=id st'
  exact⟨u,rfl,sd (s:={s with heap:=h'}) e c d (by decide) ⟨x,H,I1,ru,⟨rfl,fun ys hy=>by rw[I.list_inj hy hq];exact hx⟩,st',fun b hb=>(hf b hb).1⟩⟩
 done:=by
  intro X hP hw hK hc i pins s σ H E I hf st hg
  subst hP hw hK
  obtain⟨xs,hq,hx⟩:=hg
  obtain⟨its,rv,p,hz⟩:=I.list hq
  obtain⟨f0,f1,f2,f3,f4,f5⟩:=hf it (by simp)
  have hl:=rv.length
  exact wpAny_pyNext_list_end (I.ok.hd hc) st p.isList (by simp;omega) fun h' eb=>⟨rfl,I.turned (t':=s.toks) (fun b o hb e=>eb b o hb e) f0 f1 f3 f4 f5⟩
 self:=fun _ _ _ _ _ st h=>wpAny_pyIter_listiter st h
theorem ri{P:Program}{w:World}{K:W.Frag}{tg:Expr}(a it:Addr):Turn P w K tg (Itt K a) [it] it (fun i h=>h.IsTupleIter it a i) where
 mem:=by simp
 obj:=fun i h st b hb=>by
  have e:b=it:=by simpa using hb
  subst e
  obtain⟨o,e,c,d⟩:=st
  exact⟨o,e,fun v z=>by rw[d] at z;cases z⟩
 keep:=fun i h h' st k=>st.at fun o e=>k it (by simp) o e
 item:=by
  intro X hP hw hK hc i pins s σ H E I hf st hg
  subst hP hw hK
  obtain⟨xs,x,hq,hx⟩:=hg
  obtain⟨its,rv,p,hz⟩:=I.tuple hq
  obtain⟨u,hu,ru⟩:=rv.get hx
  obtain⟨f0,f1,f2,f3,f4,f5⟩:=hf it (by simp)
  refine wpAny_pyNext_tuple_item st (show s.heap.IsTuple a its.toArray from p) (x:=u) (by simpa using hu) fun h' st' sb=> ?_
  have I1:Inv X pins σ H {s with heap:=h'}:=I.turned (t':=s.toks) (fun b o hb e=>(sb.2 b hb).trans e) f0 f1 f3 f4 f5
  obtain⟨o,e,c,d⟩:=id st'
  exact⟨u,rfl,sd (s:={s with heap:=h'}) e c d (by decide) ⟨x,H,I1,ru,⟨rfl,fun ys hy=>by rw[I.tuple_inj hy hq];exact hx⟩,st',fun b hb=>(hf b hb).1⟩⟩
 done:=by
  intro X hP hw hK hc i pins s σ H E I hf st hg
  subst hP hw hK
  obtain⟨xs,hq,hx⟩:=hg
  obtain⟨its,rv,p,hz⟩:=I.tuple hq
  obtain⟨f0,f1,f2,f3,f4,f5⟩:=hf it (by simp)
  have hl:=rv.length
  exact wpAny_pyNext_tuple_end (I.ok.hd hc) st (show s.heap.IsTuple a its.toArray from p) (by simp;omega) fun h' eb=>⟨rfl,I.turned (t':=s.toks) (fun b o hb e=>eb b o hb e) f0 f1 f3 f4 f5⟩
 self:=fun _ _ _ _ _ st h=>wpAny_pyIter_tupleiter st h
theorem rj{P:Program}{w:World}{K:PySem.W.Frag}{tg:Expr}(it:Addr)(lo:Int)(n:Nat):Turn P w K tg (Itr lo n) [it] it (fun i h=>IsRangeIter h it (lo+(i:Nat)*1) ((n:Int)-(i:Nat)) 1) where
 mem:=by simp
 obj:=fun i h st b hb=>by
  have e:b=it:=by simpa using hb
  subst e
  exact⟨_,st,fun v z=>by
   have z':Data.fields _=Data.cell v:=z
   cases z'⟩
 keep:=fun i h h' st k=>k it (by simp) _ st
 item:=by
  intro X hP hw hK hc i pins s σ H E I hf st hg
  subst hP hw hK
  obtain⟨f0,f1,f2,f3,f4,f5⟩:=hf it (by simp)
  have W:=Walks.range (prog:=X.prog) (w:=X.w) (I.ok.hd hc) it lo 1 n
  refine W.item i s _ _ hg st fun v h' tk hv st' kk=> ?_
  obtain⟨t,rfl⟩:=hv
  have I1:Inv X pins σ H {s with heap:=h',toks:=tk}:=I.turned (fun b o hb e=>kk b o (by simpa using hb) e) f0 f1 f3 f4 f5
  refine⟨_,rfl,sd (s:={s with heap:=h',toks:=tk}) (n:="range_iterator") st' rfl rfl (by decide) ⟨.int (lo+i),H,I1,⟨t, ?_⟩,⟨rfl,rfl⟩,st',fun b hb=>(hf b hb).1⟩⟩
  rw[Int.mul_one]
 done:=by
  intro X hP hw hK hc i pins s σ H E I hf st hg
  subst hP hw hK
  obtain⟨f0,f1,f2,f3,f4,f5⟩:=hf it (by simp)
  exact wpAny_pyNext_range_end (I.ok.hd hc) st (by have:n≤i:=hg;omega) fun h' eb=>⟨rfl,I.turned (t':=s.toks) (fun b o hb e=>eb b o hb e) f0 f1 f3 f4 f5⟩
 self:=fun _ _ _ _ _ st h=>wpAny_pyIter_rangeiter st h
end L2
namespace L2
open PySem PySem.Spec PyProof.Rows
section
variable{X:Cx}{tg:Expr}
def se(K:W.Frag)(tl:TE):TI:=fun σ H R=>tl σ H fun x H1=>∃a,x= .ref a∧(∃xs,SqL K H1 a xs)∧R (Itl K a) H1
def wo(K:W.Frag)(tl:TE):TI:=fun σ H R=>tl σ H fun x H1=>∃a,x= .ref a∧(∃xs,SqT K H1 a xs)∧R (Itt K a) H1
theorem cA{l:Expr}{tl:TE}(hl:PE X l tl):PI X tg l (se X.K tl):=by
 intro pins s σ H R I h
 refine thn (hl pins s σ H _ I h) fun v s1 ⟨x,H1,I1,r1,q1⟩=> ?_
 obtain⟨a,e,⟨xs,hq⟩,q⟩:=q1
 subst e
 cases r1
 obtain⟨its,rv,p,hz⟩:=I1.list hq
 refine wpAny_pyIter_list p.isList ?_
 refine⟨s1.heap.objs.size,[s1.heap.objs.size],_,_,H1,rfl,I1.kept (t':=s1.toks) fun b o e=>Heap.get?_push_of_some _ e,tO a _,⟨_,Heap.get?_push_size _ rfl,rfl,rfl⟩,fun b hb=> ?_,q⟩
 have e:b=s1.heap.objs.size:=by simpa using hb
 subst e
 exact I1.fpOk (Nat.le_refl _) (I1.hok.fresh (Nat.le_refl _))
theorem cT{l:Expr}{tl:TE}(hl:PE X l tl):PI X tg l (wo X.K tl):=by
 intro pins s σ H R I h
 refine thn (hl pins s σ H _ I h) fun v s1 ⟨x,H1,I1,r1,q1⟩=> ?_
 obtain⟨a,e,⟨xs,hq⟩,q⟩:=q1
 subst e
 cases r1
 obtain⟨its,rv,p,hz⟩:=I1.tuple hq
 refine wpAny_pyIter_tuple (show s1.heap.IsTuple a its.toArray from p) ?_
 refine⟨s1.heap.objs.size,[s1.heap.objs.size],_,_,H1,rfl,I1.kept (t':=s1.toks) fun b o e=>Heap.get?_push_of_some _ e,ri a _,⟨_,Heap.get?_push_size _ rfl,rfl,rfl⟩,fun b hb=> ?_,q⟩
 have e:b=s1.heap.objs.size:=by simpa using hb
 subst e
 exact I1.fpOk (Nat.le_refl _) (I1.hok.fresh (Nat.le_refl _))
theorem qt{pins:List (Addr×Obj)}{σ:St}{H:Hp}{s:Shared}{R:It→Hp→Prop}{E:Value→Shared→Prop}{lo hi:Int}{t u v:Tok}{tk:Nat}(I:Inv X pins σ H s)(h1: -(2^62)≤lo)(h2:lo<2^62)(h3: -(2^62)≤hi)(h4:hi<2^62)
 (q:R (Itr lo (hi-lo).toNat) H):wpAny (model X.prog X.w) X.A (pyIter (.ref s.heap.objs.size)) (PIE X pins σ tg R) E {s with heap:=s.heap.push {cls:= .type "range",data:= .fields #[.int lo t, .int hi u, .int 1 v]},toks:=tk}:=by
 refine wpAny_pyIter_range (IsRange.new ..) (small_one h1 h2 h3 h4) ?_
 have I1:Inv X pins σ H {s with heap:=s.heap.push {cls:= .type "range",data:= .fields #[.int lo t, .int hi u, .int 1 v]},toks:=tk}:=I.kept fun b o e=>Heap.get?_push_of_some _ e
 refine⟨(s.heap.push {cls:= .type "range",data:= .fields #[.int lo t, .int hi u, .int 1 v]}).objs.size,[(s.heap.push {cls:= .type "range",data:= .fields #[.int lo t, .int hi u, .int 1 v]}).objs.size],_,_,H,rfl,
  I1.kept (t':=tk) fun b o e=>Heap.get?_push_of_some _ e,rj _ lo (hi-lo).toNat, ?_,fun b hb=> ?_,q⟩
 · have e1:lo+((0:Nat):Int)*1=lo:=by simp
   have e2:(((hi-lo).toNat:Nat):Int)-((0:Nat):Int)=Builtin.Range.rangeSize lo hi 1:=by rw[rangeSize_one];split<;>omega
   show IsRangeIter _ _ (lo+((0:Nat):Int)*1) ((((hi-lo).toNat:Nat):Int)-((0:Nat):Int)) 1
   rw[e1,e2]
   exact Heap.get?_push_size _ rfl
 · have e:b=(s.heap.push {cls:= .type "range",data:= .fields #[.int lo t, .int hi u, .int 1 v]}).objs.size:=by simpa using hb
   subst e
   exact I1.fpOk (Nat.le_refl _) (I1.hok.fresh (Nat.le_refl _))
def xM(ta:TA):TI:=fun σ H R=>ta σ H fun vs H1=>∃j:Int,vs=[.int j]∧ -(2^62)≤j∧j<2^62∧R (Itr 0 j.toNat) H1
def xN(ta:TA):TI:=fun σ H R=>ta σ H fun vs H1=>∃i j:Int,vs=[.int i, .int j]∧(-(2^62)≤i∧i<2^62∧ -(2^62)≤j∧j<2^62)∧R (Itr i (j-i).toNat) H1
theorem i3{a:Expr}{ta:TA}{p pos:Pos}(hg:Gl X "range")(hm:X.mg "range"=none)(ha:PA X [a] ta)(hs:starEach [a] X.env=[(false,eval a X.env)]:=by rfl):PI X tg (.Call (.Name "range" p) [a] [] pos) (xM ta):=by
 intro pins s σ H R I h
 refine Call_ (io I hg hm boot_range (PyProof.Rows.callWith_type1 (thn (ha pos pins s σ H _ I h) fun us s1 ⟨vs,H1,I1,r1,q1⟩=> ?_) hs rfl))
 obtain⟨j,e,q1,q2,q⟩:=q1
 subst e
 cases r1 with
 |cons r rr=>
  cases rr
  obtain⟨t,rfl⟩:=r
  exact call_range_1 (qt I1 (by omega) (by omega) q1 q2 (by simpa using q))
theorem nZ{a b:Expr}{ta:TA}{p pos:Pos}(hg:Gl X "range")(hm:X.mg "range"=none)(ha:PA X [a,b] ta)(hs:starEach [a,b] X.env=[(false,eval a X.env),(false,eval b X.env)]:=by rfl)(hs2:starEach [b] X.env=[(false,eval b X.env)]:=by rfl):
 PI X tg (.Call (.Name "range" p) [a,b] [] pos) (xN ta):=by
 intro pins s σ H R I h
 refine Call_ (io I hg hm boot_range (PyProof.Rows.callWith_type1 (thn (ha pos pins s σ H _ I h) fun us s1 ⟨vs,H1,I1,r1,q1⟩=> ?_) (by rw[hs,hs2]) (by rw[hs2];rfl)))
 obtain⟨i,j,e,⟨q1,q2,q3,q4⟩,q⟩:=q1
 subst e
 cases r1 with
 |cons r rr=>
  cases rr with
  |cons r' rr=>
   cases rr
   obtain⟨t,rfl⟩:=r
   obtain⟨t',rfl⟩:=r'
   exact call_range_2 (qt I1 q1 q2 q3 q4 q)
def yx(wi:TI)(g:TG)(tb:TS):TS:=fun D σ H=>wi σ H fun J H1=>∃W:Nat→Nat→St→Hp→Prop,(∃m,W 0 m σ H1)∧∀i m σ H,W i m σ H→
 (J.stop i H∧D.nx σ H)∨(J.go i H∧∃N:St→Hp→Prop,(∀σ' H',N σ' H'→∃m',m'<m∧W (i+1) m' σ' H')∧∀x H',J.yld i H x H'→g x σ H' fun σ2 H2=>tb {D with nx:=N,ct:=N,bk:=D.nx} σ2 H2)
def kN(fp:List Addr)(h:Heap):List (Addr×Obj):=fp.filterMap fun b=>(h.get? b).map fun o=>(b,o)
theorem gx{fp:List Addr}{h:Heap}{b:Addr}{o:Obj}(hb:b∈fp)(e:h.get? b=some o):(b,o)∈kN fp h:=List.mem_filterMap.mpr ⟨b,hb,by rw[e];rfl⟩
theorem tP{fp:List Addr}{h:Heap}{p:Addr×Obj}(hp:p∈kN fp h):p.1∈fp∧h.get? p.1=some p.2:=by
 obtain⟨b,hb,e⟩:=List.mem_filterMap.mp hp
 cases q:h.get? b with
 |none=>rw[q] at e;cases e
 |some o=>
  rw[q] at e
  have e':(b,o)=p:=Option.some.inj e
  subst e'
  exact⟨hb,q⟩
theorem Inv.pinned{pins:List (Addr×Obj)}{σ:St}{H:Hp}{s:Shared}{fp:List Addr}(I:Inv X pins σ H s)(hf:∀b∈fp,jU X pins H b)(ho:∀b∈fp,∃o,s.heap.get? b=some o∧∀v,o.data≠ .cell v):Inv X (pins++kN fp s.heap) σ H s:=
 I.pins_of fun p hp=>(List.mem_append.mp hp).elim (fun z=>I.pin p (List.mem_append_right _ z)) fun z=>by
  obtain⟨hb,e⟩:=tP z
  obtain⟨f0,f1,f2,_⟩:=hf p.1 hb
  obtain⟨o,e',d⟩:=ho p.1 hb
  rw[e] at e';cases e'
  exact⟨e,f0,f1,f2,d⟩
theorem Inv.unpinned{pins pl:List (Addr×Obj)}{σ:St}{H:Hp}{s:Shared}(I:Inv X (pins++pl) σ H s):Inv X pins σ H s:=I.pins_of fun p hp=>I.pin p (List.mem_append_right _ (List.mem_append_left _ hp))
theorem eA{iter:Expr}{body:List Stmt}{wi:TI}{g:TG}{tb:TS}{pos:Pos}(hp:PassesOwn (model X.prog X.w) X.A X.env X.xe)(hc:X.calm=true)(hi:PI X tg iter wi)(hg:PG X tg g)(hb:PSs X body tb)
 (hs:∀x,foldedSetIterable iter X.env x=pure x:=by intro _;rfl):PS X (.For tg iter body [] pos) (yx wi g tb):=by
 intro pins s σ H D I h
 refine wpAny_For (thn (hi pins s σ H _ I h) fun v s1 h1=>thn h1 fun itv s2 h2=> ?_) hs
 obtain⟨it,fp,tn,J,H2,e,I2,T,st2,f2,W,⟨m0,w0⟩,turn⟩:=h2
 subst e
 have stat:∀{H':Hp},(∀b∈fp,H' b=none)→∀b∈fp,jU X pins H' b:=fun hn b hb=>⟨hn b hb,(f2 b hb).2⟩
 refine codeAny_forLoop_any (fun n s'=>∃i σ' H',Inv X pins σ' H' s'∧tn i s'.heap∧(∀b∈fp,H' b=none)∧W i n σ' H') ?_ m0 ⟨0,σ,H2,I2,st2,fun b hb=>(f2 b hb).1,w0⟩
 rintro n s3 ⟨i,σ3,H3,I3,st3,fr3,w3⟩
 rcases turn i n σ3 H3 w3 with⟨stop,qn⟩|⟨go,N,hN,step⟩
 · refine wpAny_passesOwn hp (thn (T.done X rfl rfl rfl hc i pins s3 σ3 H3 X.xe I3 (stat fr3) st3 stop) fun r s4 ⟨hr,I4⟩=> ?_)
   subst hr
   exact wpAny_execs_nil ⟨σ3,H3,I4,qn⟩
 · refine wpAny_passesOwn hp (thn (T.item X rfl rfl rfl hc i pins s3 σ3 H3 X.xe I3 (stat fr3) st3 go) fun r s4 ⟨u,hr,h4⟩=> ?_)
   subst hr
   refine wpAny_passesOwn hp (thn h4 fun _ s5 ⟨x,H5,I5,r5,y5,st5,fr5⟩=> ?_)
   have I5':=I5.pinned (stat fr5) (T.obj _ _ st5)
   refine wpAny_passesOwn hp (thn (hg _ s5 σ3 H5 x u _ I5' r5 (step x H5 y5)) fun _ s6 ⟨σ6,H6,I6,q6⟩=> ?_)
   refine wpAny_passesOwn hp (thn (hb _ s6 σ6 H6 _ I6 q6) fun f s7 q7=> ?_)
   have again:∀{σ7:St} {H7:Hp},Inv X (pins++kN fp s5.heap) σ7 H7 s7→N σ7 H7→∃m,m<n∧∃i σ' H',Inv X pins σ' H' s7∧tn i s7.heap∧(∀b∈fp,H' b=none)∧W i m σ' H':=fun {σ7 H7} I7 n7=>by
    obtain⟨m',hm,w7⟩:=hN σ7 H7 n7
    refine⟨m',hm,i+1,σ7,H7,I7.unpinned,T.keep _ _ _ st5 fun b hb o e=>(I7.pin (b,o) (List.mem_append_right _ (List.mem_append_right _ (gx hb e)))).1,fun b hb=> ?_,w7⟩
    obtain⟨o,e,d⟩:=T.obj _ _ st5 b hb
    exact(I7.pin (b,o) (List.mem_append_right _ (List.mem_append_right _ (gx hb e)))).2.1
   cases f with
   |next=>obtain⟨σ7,H7,I7,n7⟩:=q7;exact again I7 n7
   |cont=>obtain⟨σ7,H7,I7,n7⟩:=q7;exact again I7 n7
   |brk=>obtain⟨σ7,H7,I7,q7⟩:=q7;exact⟨σ7,H7,I7.unpinned,q7⟩
   |ret v=>obtain⟨x7,σ7,H7,I7,r7,q7⟩:=q7;exact⟨x7,σ7,H7,I7.unpinned,r7,q7⟩
end
abbrev R2:=V→V→Hp→VK→Prop
def OpR(X:Cx)(f:Value→Value→Sem Value)(r:R2):Prop:=
 ∀(pins:List (Addr×Obj)) (s:Shared) (σ:St) (H:Hp) (x y:V) (v u:Value) (Q:VK),Inv X pins σ H s→RelV x v→RelV y u→r x y H Q→
  wpAny (model X.prog X.w) X.A (f v u) (EP X pins σ Q) X.xe s
def UnR(X:Cx)(f:Value→Sem Value)(r:V→Hp→VK→Prop):Prop:=
 ∀(pins:List (Addr×Obj)) (s:Shared) (σ:St) (H:Hp) (x:V) (v:Value) (Q:VK),Inv X pins σ H s→RelV x v→r x H Q→
  wpAny (model X.prog X.w) X.A (f v) (EP X pins σ Q) X.xe s
def CallR(X:Cx)(f:Value)(r:List V→Hp→VK→Prop):Prop:=
 ∀(pins:List (Addr×Obj)) (s:Shared) (σ:St) (H:Hp) (xs:List V) (us:List Value) (Q:VK),Inv X pins σ H s→Vals xs us→r xs H Q→
  wpAny (model X.prog X.w) X.A (call f us) (EP X pins σ Q) X.xe s
def AW(X:Cx)(r:V→Hp→(Bool→Hp→Prop)→Prop):Prop:=
 ∀(pins:List (Addr×Obj)) (s:Shared) (σ:St) (H:Hp) (x:V) (v:Value) (Q:Bool→Hp→Prop),Inv X pins σ H s→RelV x v→r x H Q→
  wpAny (model X.prog X.w) X.A (truthy v) (TP X pins σ Q) X.xe s
def tOp(r:R2)(ta tb:TE):TE:=fun σ H Q=>ta σ H fun x H1=>tb σ H1 fun y H2=>r x y H2 Q
def tUn(r:V→Hp→VK→Prop)(ta:TE):TE:=fun σ H Q=>ta σ H fun x H1=>r x H1 Q
def rI(C:Int→Int→Prop)(g:Int→Int→V):R2:=fun x y H Q=>∃i j,x= .int i∧y= .int j∧C i j∧Q (g i j) H
def rI0(g:Int→Int→V):R2:=fun x y H Q=>∃i j,x= .int i∧y= .int j∧Q (g i j) H
def rU(g:Int→V):V→Hp→VK→Prop:=fun x H Q=>∃i,x= .int i∧Q (g i) H
section
variable{X:Cx}{a b c:Expr}{ta tb tc:TE}{pos:Pos}
theorem yy(ha:PE X a ta)(hb:PE X b tb){pins:List (Addr×Obj)}{s:Shared}{σ:St}{H:Hp}{R:V→V→Hp→Prop}(I:Inv X pins σ H s)
 (h:ta σ H fun x H1=>tb σ H1 fun y H2=>R x y H2){Q:Value→Shared→Prop}{f:Value→Value→Sem Value}
 (hf:∀v u s2 x y H2,Inv X pins σ H2 s2→RelV x v→RelV y u→R x y H2→wpAny (model X.prog X.w) X.A (f v u) Q X.xe s2):
 wpAny (model X.prog X.w) X.A (eval a X.env) (fun v s₁=>wpAny (model X.prog X.w) X.A (eval b X.env) (fun u s₂=>wpAny (model X.prog X.w) X.A (f v u) Q X.xe s₂) X.xe s₁) X.xe s:=by
 refine thn (ha pins s σ H _ I h) fun v s1 ⟨x,H1,I1,r1,q1⟩=> ?_
 refine thn (hb pins s1 σ H1 _ I1 q1) fun u s2 ⟨y,H2,I2,r2,q2⟩=> ?_
 exact hf v u s2 x y H2 I2 r1 r2 q2
theorem bG{op:Operator}{r:R2}(ho:OpR X (binaryOp op) r)(ha:PE X a ta)(hb:PE X b tb):PE X (.BinOp a op b pos) (tOp r ta tb):=by
 intro pins s σ H Q I h
 exact wpAny_BinOp (yy ha hb I h fun v u s2 x y H2 I2 rx ry q=>ho pins s2 σ H2 x y v u Q I2 rx ry q)
theorem zQ{op:UnaryOp}{r:V→Hp→VK→Prop}(ho:UnR X (unaryOp op) r)(ha:PE X a ta):PE X (.UnaryOp op a pos) (tUn r ta):=by
 intro pins s σ H Q I h
 exact UnaryOp_ (thn (ha pins s σ H _ I h) fun v s1 ⟨x,H1,I1,r1,q1⟩=>ho pins s1 σ H1 x v Q I1 r1 q1)
theorem opI{f:Value→Value→Sem Value}{C:Int→Int→Prop}{g:Int→Int→Int}
 (rule:∀(i j:Int) (t u:Tok) (s:Shared) (Q:Value→Shared→Prop) (E:Value→Shared→Prop),C i j→Q (.int (g i j) s.toks) {s with toks:=s.toks+1}→wpAny (model X.prog X.w) X.A (f (.int i t) (.int j u)) Q E s):
 OpR X f (rI C fun i j=> .int (g i j)):=by
 intro pins s σ H x y v u Q I rx ry h
 obtain⟨i,j,rfl,rfl,hc,q⟩:=h
 obtain⟨t,rfl⟩:=rx
 obtain⟨t',rfl⟩:=ry
 exact rule i j t t' s _ _ hc ⟨.int (g i j),H,I.tok _,⟨_,rfl⟩,q⟩
theorem zR{f:Value→Value→Sem Value}{g:Int→Int→Int}
 (rule:∀(i j:Int) (t u:Tok) (s:Shared) (Q:Value→Shared→Prop) (E:Value→Shared→Prop),Q (.int (g i j) s.toks) {s with toks:=s.toks+1}→wpAny (model X.prog X.w) X.A (f (.int i t) (.int j u)) Q E s):
 OpR X f (rI0 fun i j=> .int (g i j)):=by
 intro pins s σ H x y v u Q I rx ry h
 obtain⟨i,j,rfl,rfl,q⟩:=h
 obtain⟨t,rfl⟩:=rx
 obtain⟨t',rfl⟩:=ry
 exact rule i j t t' s _ _ ⟨.int (g i j),H,I.tok _,⟨_,rfl⟩,q⟩
theorem ux{f:Value→Value→Sem Value}{g:Int→Int→Bool}
 (rule:∀(i j:Int) (t u:Tok) (s:Shared) (Q:Value→Shared→Prop) (E:Value→Shared→Prop),Q (.bool (g i j)) s→wpAny (model X.prog X.w) X.A (f (.int i t) (.int j u)) Q E s):
 OpR X f (rI0 fun i j=> .bl (g i j)):=by
 intro pins s σ H x y v u Q I rx ry h
 obtain⟨i,j,rfl,rfl,q⟩:=h
 obtain⟨t,rfl⟩:=rx
 obtain⟨t',rfl⟩:=ry
 exact rule i j t t' s _ _ ⟨.bl (g i j),H,I,rfl,q⟩
def zS(i j:Int):Prop:=0<j∧j<1073741824
def zT(i j:Int):Prop:=0≤j∧j≤1000000∧i.natAbs<2^64
theorem yz:OpR X (binaryOp .Add) (rI0 fun i j=> .int (i+j)):=zR fun _ _ _ _ _ _ _ q=>add_int q
theorem kP:OpR X (binaryOp .Sub) (rI0 fun i j=> .int (i-j)):=zR fun _ _ _ _ _ _ _ q=>sub_int q
theorem cU:OpR X (binaryOp .FloorDiv) (rI zS fun i j=> .int (i/j)):=opI fun i j _ _ _ _ _ hc q=>by
 have h1:(0:Int)<j:=hc.1
 have h2:j<1073741824:=hc.2
 exact floordiv_int (by omega) (by rw[Int.fdiv_eq_ediv_of_nonneg i (by omega)];exact q) (.inl (PyProof.noPylong_small (by omega)))
theorem cK:OpR X (binaryOp .Mod) (rI (fun _ j=>0<j) fun i j=> .int (i%j)):=opI fun i j _ _ _ _ _ hc q=>by
 have h1:(0:Int)<j:=hc
 exact mod_int' (by omega) (by rw[Int.fmod_eq_emod_of_nonneg i (by omega)];exact q)
theorem yA:OpR X (binaryOp .Pow) (rI zT fun i j=> .int (i^j.toNat)):=opI fun _ _ _ _ _ _ _ hc q=>pow_int_small hc.1 hc.2.1 hc.2.2 q
theorem unI{f:Value→Sem Value}{g:Int→Int}
 (rule:∀(i:Int) (t:Tok) (s:Shared) (Q:Value→Shared→Prop) (E:Value→Shared→Prop),Q (.int (g i) s.toks) {s with toks:=s.toks+1}→wpAny (model X.prog X.w) X.A (f (.int i t)) Q E s):
 UnR X f (rU fun i=> .int (g i)):=by
 intro pins s σ H x v Q I rx h
 obtain⟨i,rfl,q⟩:=h
 obtain⟨t,rfl⟩:=rx
 exact rule i t s _ _ ⟨.int (g i),H,I.tok _,⟨_,rfl⟩,q⟩
theorem yB:UnR X (unaryOp .USub) (rU fun i=> .int (-i)):=unI fun _ _ _ _ _ q=>neg_int q
end
def zU:V→V→Bool
 | .non, .non=>true| .non, .int _=>true| .int _, .non=>true| .non, .bl _=>true| .bl _, .non=>true| .non, .str _=>true| .str _, .non=>true
 | .int _, .int _=>true| .bl _, .bl _=>true| .str _, .str _=>true| .byt _, .byt _=>true
 | .int _, .str _=>true| .str _, .int _=>true| .bl _, .str _=>true| .str _, .bl _=>true
 |_,_=>false
def rEq:R2:=fun x y H Q=>zU x y=true∧Q (.bl (decide (x=y))) H
def rNe:R2:=fun x y H Q=>zU x y=true∧Q (.bl (!decide (x=y))) H
theorem sf{i j:Int}:decide (V.int i=V.int j)=(i==j):=by
 rw[Bool.eq_iff_iff]
 simp
theorem uy{i j:Bool}:decide (V.bl i=V.bl j)=(i==j):=by
 rw[Bool.eq_iff_iff]
 simp
theorem sh{i j:Str}:decide (V.str i=V.str j)=(i==j):=by
 rw[Bool.eq_iff_iff]
 simp
theorem si{i j:Array UInt8}:decide (V.byt i=V.byt j)=(i.toList==j.toList):=by
 rw[Bool.eq_iff_iff]
 cases i
 cases j
 simp
section
variable{X:Cx}{a b c:Expr}{ta tb tc:TE}{pos:Pos}
theorem cw{pins:List (Addr×Obj)}{σ:St}{H:Hp}{s:Shared}{Q:VK}{k k':Bool}(I:Inv X pins σ H s)(q:Q (.bl k) H)(e:k=k'):EP X pins σ Q (.bool k') s:=by
 subst e
 exact⟨.bl k,H,I,rfl,q⟩
theorem zV:OpR X (compareOp .Eq) rEq:=by
 intro pins s σ H x y v u Q I rx ry h
 obtain⟨hs,q⟩:=h
 cases x with
 |non=>
  cases rx
  cases y with
  |non=>cases ry;exact PySem.EqNone.eq_none_none (cw I q (by simp))
  |bl j=>cases ry;exact PySem.EqNone.eq_none_bool (cw I q (by simp))
  |int j=>obtain⟨t',rfl⟩:=ry;exact PySem.EqNone.eq_none_int (cw I q (by simp))
  |str j=>obtain⟨t',rfl⟩:=ry;exact PySem.EqNone.eq_none_str (cw I q (by simp))
  |_=>exact absurd (show false=true from hs) Bool.false_ne_true
 |bl i=>
  cases rx
  cases y with
  |non=>cases ry;exact PySem.EqNone.eq_bool_none (cw I q (by simp))
  |bl j=>cases ry;exact eq_bool (cw I q uy)
  |str j=>obtain⟨t',rfl⟩:=ry;exact PySem.EqMixed.eq_bool_str (cw I q (by simp))
  |_=>exact absurd (show false=true from hs) Bool.false_ne_true
 |int i=>
  obtain⟨t,rfl⟩:=rx
  cases y with
  |non=>cases ry;exact PySem.EqNone.eq_int_none (cw I q (by simp))
  |int j=>obtain⟨t',rfl⟩:=ry;exact eq_int (cw I q sf)
  |str j=>obtain⟨t',rfl⟩:=ry;exact PySem.EqMixed.eq_int_str (cw I q (by simp))
  |_=>exact absurd (show false=true from hs) Bool.false_ne_true
 |str i=>
  obtain⟨t,rfl⟩:=rx
  cases y with
  |non=>cases ry;exact PySem.EqNone.eq_str_none (cw I q (by simp))
  |bl j=>cases ry;exact PySem.EqMixed.eq_str_bool (cw I q (by simp))
  |int j=>obtain⟨t',rfl⟩:=ry;exact PySem.EqMixed.eq_str_int (cw I q (by simp))
  |str j=>obtain⟨t',rfl⟩:=ry;exact eq_str (cw I q sh)
  |_=>exact absurd (show false=true from hs) Bool.false_ne_true
 |byt i=>
  obtain⟨t,rfl⟩:=rx
  cases y with
  |byt j=>obtain⟨t',rfl⟩:=ry;exact W.eq_bytes (cw I q si)
  |_=>exact absurd (show false=true from hs) Bool.false_ne_true
 |_=>cases y<;>exact absurd (show false=true from hs) Bool.false_ne_true
theorem zW:OpR X (compareOp .NotEq) rNe:=by
 intro pins s σ H x y v u Q I rx ry h
 obtain⟨hs,q⟩:=h
 cases x with
 |non=>
  cases rx
  cases y with
  |non=>cases ry;exact PySem.EqNone.ne_none_none (cw I q (by simp))
  |bl j=>cases ry;exact PySem.EqNone.ne_none_bool (cw I q (by simp))
  |int j=>obtain⟨t',rfl⟩:=ry;exact PySem.EqNone.ne_none_int (cw I q (by simp))
  |str j=>obtain⟨t',rfl⟩:=ry;exact PySem.EqNone.ne_none_str (cw I q (by simp))
  |_=>exact absurd (show false=true from hs) Bool.false_ne_true
 |bl i=>
  cases rx
  cases y with
  |non=>cases ry;exact PySem.EqNone.ne_bool_none (cw I q (by simp))
  |bl j=>cases ry;exact ne_bool (cw I q (congrArg not uy))
  |str j=>obtain⟨t',rfl⟩:=ry;exact PySem.EqMixed.ne_bool_str (cw I q (by simp))
  |_=>exact absurd (show false=true from hs) Bool.false_ne_true
 |int i=>
  obtain⟨t,rfl⟩:=rx
  cases y with
  |non=>cases ry;exact PySem.EqNone.ne_int_none (cw I q (by simp))
  |int j=>obtain⟨t',rfl⟩:=ry;exact ne_int (cw I q (congrArg not sf))
  |str j=>obtain⟨t',rfl⟩:=ry;exact PySem.EqMixed.ne_int_str (cw I q (by simp))
  |_=>exact absurd (show false=true from hs) Bool.false_ne_true
 |str i=>
  obtain⟨t,rfl⟩:=rx
  cases y with
  |non=>cases ry;exact PySem.EqNone.ne_str_none (cw I q (by simp))
  |bl j=>cases ry;exact PySem.EqMixed.ne_str_bool (cw I q (by simp))
  |int j=>obtain⟨t',rfl⟩:=ry;exact PySem.EqMixed.ne_str_int (cw I q (by simp))
  |str j=>obtain⟨t',rfl⟩:=ry;exact ne_str (cw I q (congrArg not sh))
  |_=>exact absurd (show false=true from hs) Bool.false_ne_true
 |byt i=>
  obtain⟨t,rfl⟩:=rx
  cases y with
  |byt j=>obtain⟨t',rfl⟩:=ry;exact W.ne_bytes (cw I q (congrArg not si))
  |_=>exact absurd (show false=true from hs) Bool.false_ne_true
 |_=>cases y<;>exact absurd (show false=true from hs) Bool.false_ne_true
theorem qu:OpR X (compareOp .Lt) (rI0 fun i j=> .bl (decide (i<j))):=ux fun _ _ _ _ _ _ _ q=>lt_int q
theorem xO:OpR X (compareOp .LtE) (rI0 fun i j=> .bl (decide (i≤j))):=ux fun _ _ _ _ _ _ _ q=>le_int q
theorem xP:OpR X (compareOp .Gt) (rI0 fun i j=> .bl (decide (j<i))):=ux fun _ _ _ _ _ _ _ q=>gt_int q
theorem yC:OpR X (compareOp .Is) (fun x y H Q=>y= .non∧Q (.bl (decide (x= .non))) H):=by
 intro pins s σ H x y v u Q I rx ry h
 obtain⟨rfl,q⟩:=h
 cases ry
 refine is_none_gen (cw I q ?_)
 cases x<;>first
  |(cases rx;rfl)
  |(obtain⟨t,rfl⟩:=rx;rfl)
theorem OpR.or{f:Value→Value→Sem Value}{r r':R2}(h:OpR X f r)(h':OpR X f r'):OpR X f (fun x y H Q=>r x y H Q∨r' x y H Q):=by
 intro pins s σ H x y v u Q I rx ry q
 rcases q with q|q
 · exact h pins s σ H x y v u Q I rx ry q
 · exact h' pins s σ H x y v u Q I rx ry q
theorem dG(b:Expr){op:CmpOp}(h:op≠ .In:=by decide)(h2:op≠ .NotIn:=by decide):behindInMarks op b=false:=by
 have e1:(op==CmpOp.In)=false:=by cases op<;>first|rfl|exact absurd rfl h
 have e2:(op==CmpOp.NotIn)=false:=by cases op<;>first|rfl|exact absurd rfl h2
 cases b<;>simp[behindInMarks,e1,e2]
theorem jN{op:CmpOp}{r:R2}(ho:OpR X (compareOp op) r)(ha:PE X a ta)(hb:PE X b tb)(hm:behindInMarks op b=false):PE X (.Compare a [op] [b] pos) (tOp r ta tb):=by
 intro pins s σ H Q I h
 exact wpAny_Compare1 (yy ha hb I h fun v u s2 x y H2 I2 rx ry q=>ho pins s2 σ H2 x y v u Q I2 rx ry q) hm
def xQ(t:TE):TT:=fun σ H Q=>t σ H fun x H'=>∃k,x= .bl k∧Q k H'
theorem eC{op:CmpOp}{r:R2}(ho:OpR X (compareOp op) r)(ha:PE X a ta)(hb:PE X b tb)(hm:behindInMarks op b=false):PT X (.Compare a [op] [b] pos) (xQ (tOp r ta tb)):=by
 intro pins s σ H Q I h
 refine wpAny_isTrue_Compare1 (thn (ha pins s σ H _ I h) fun v s1 ⟨x,H1,I1,r1,q1⟩=>thn (hb pins s1 σ H1 _ I1 q1) fun u s2 ⟨y,H2,I2,r2,q2⟩=>
  thn (ho pins s2 σ H2 x y v u _ I2 r1 r2 q2) fun c s3 ⟨z,H3,I3,r3,k,e,q3⟩=> ?_) hm
 subst e
 cases r3
 exact wpAny_truthy_bool ⟨H3,I3,q3⟩
def yD(K:W.Frag)(x:V)(H:Hp)(k:Bool):Prop:=
 match x with
 | .non=>k=false
 | .bl b=>k=b
 | .int i=>k=(i != 0)
 | .str y=>y.length≤sizeLine∧k=((y.length:Int) != 0)
 | .byt y=>y.size≤sizeLine∧k=((y.size:Int) != 0)
 | .ref p=>(∃xs,SqL K H p xs∧k= !xs.isEmpty)∨(∃xs,SqT K H p xs∧k= !xs.isEmpty)∨∃kvs,H p=some (.dK kvs)∧k= !kvs.isEmpty
 |_=>False
theorem rk{κ:Type}{kvs:List (κ×V)}{vs:List (κ×Value)}(r:KV kvs vs):(!vs.isEmpty)= !kvs.isEmpty:=by
 cases r<;>rfl
theorem mH{xs:List V}{its:List Value}(r:Vals xs its):(!its.toArray.isEmpty)= !xs.isEmpty:=by
 cases r<;>simp
theorem kQ:(sizeLine:Nat)<2^63:=by rw[sizeLine_eq];decide
theorem yE:AW X (fun x H Q=>∃k,yD X.K x H k∧Q k H):=by
 intro pins s σ H x v Q I rx h
 obtain⟨k,e,q⟩:=h
 have hl:=kQ
 have hs:sizeLine=16777216:=sizeLine_eq
 cases x with
 |non=>
  cases rx
  have e':k=false:=e
  subst e'
  exact truthy_none ⟨H,I,q⟩
 |bl b=>
  cases rx
  have e':k=b:=e
  subst e'
  exact wpAny_truthy_bool ⟨H,I,q⟩
 |int i=>
  obtain⟨t,rfl⟩:=rx
  have e':k=(i != 0):=e
  subst e'
  exact PySem.P.truthy_int ⟨H,I,q⟩
 |str y=>
  obtain⟨t,rfl⟩:=rx
  obtain⟨hy,e'⟩:y.length≤sizeLine∧k=((y.length:Int) != 0):=e
  subst e'
  exact PySem.P.truthy_str (by omega) ⟨H,I.tok _,q⟩
 |byt y=>
  obtain⟨t,rfl⟩:=rx
  obtain⟨hy,e'⟩:y.size≤sizeLine∧k=((y.size:Int) != 0):=e
  subst e'
  exact W.truthy_bytes (by omega) ⟨H,I.tok _,q⟩
 |ref p=>
  cases rx
  have e':(∃xs,SqL X.K H p xs∧k= !xs.isEmpty)∨(∃xs,SqT X.K H p xs∧k= !xs.isEmpty)∨∃kvs,H p=some (.dK kvs)∧k= !kvs.isEmpty:=e
  rcases e' with⟨xs,hx,e'⟩|⟨xs,hx,e'⟩|⟨kvs,hx,e'⟩
  · subst e'
    obtain⟨its,r,pl,hz⟩:=I.list hx
    have hlen:=r.length
    exact wpAny_truthy_list pl.isList (by simp only[List.size_toArray];omega) ⟨H,I.tok _,by rw[mH r];exact q⟩
  · subst e'
    obtain⟨its,r,pl,hz⟩:=I.tuple hx
    have hlen:=r.length
    exact truthy_tuple pl (by simp only[List.size_toArray];omega) ⟨H,I.tok _,by rw[mH r];exact q⟩
  · subst e'
    obtain⟨hz,hS,vs,r,m⟩:kvs.length≤sizeLine∧(p==sysModules)=false∧∃vs,KV kvs vs∧s.heap.DictOf (eN X.prog X.w) p vs:=I.hok p _ hx
    have hlen:kvs.length=vs.length:=Paired.length r
    exact wpAny_truthy_dict hS m (by omega) ⟨H,I.tok _,by rw[rk r];exact q⟩
 |_=>exact(show False from e).elim
theorem uz(ha:PE X a ta)(he:∀whole,isTrue a X.env whole=(do let v ←whole;standAt a.pos;holding [v] (truthy v))):
 PT X a (fun σ H Q=>ta σ H fun x H'=>∃k,yD X.K x H' k∧Q k H'):=by
 intro pins s σ H Q I h
 exact isTrue_plain (thn (ha pins s σ H _ I h) fun v s1 ⟨x,H1,I1,r1,q1⟩=>yE pins s1 σ H1 x v Q I1 r1 q1) (he _)
theorem rm:OpR X (binaryOp .Add) (fun x y H Q=>∃i j,x= .str i∧y= .str j∧i.length+j.length≤sizeLine∧Q (.str (i++j)) H):=by
 intro pins s σ H x y v u Q I rx ry h
 obtain⟨i,j,rfl,rfl,hz,q⟩:=h
 obtain⟨t,rfl⟩:=rx
 obtain⟨t',rfl⟩:=ry
 exact add_str (fun t' tk=>⟨.str (i++j),H,I.tok _,⟨_,rfl⟩,q⟩) hz
theorem uA{x:V}{us:List Value}(r:Vals [x] us):∃u,us=[u]∧RelV x u:=by
 cases r with
 |cons r1 r2=>cases r2;exact⟨_,rfl,r1⟩
theorem xR{x y:V}{us:List Value}(r:Vals [x,y] us):∃u w',us=[u,w']∧RelV x u∧RelV y w':=by
 cases r with
 |cons r1 r2=>
  cases r2 with
  |cons r3 r4=>cases r4;exact⟨_,_,rfl,r1,r3⟩
theorem i4(hc:X.calm=true):CallR X (.builtin "max") (fun xs H Q=>∃i j,xs=[.int i, .int j]∧Q (.int (if j>i then j else i)) H):=by
 intro pins s σ H xs us Q I r h
 obtain⟨i,j,rfl,q⟩:=h
 obtain⟨u,w',rfl,⟨t,rfl⟩,⟨t',rfl⟩⟩:=xR r
 refine max_two_ints (I.ok.hd hc) fun h' tk k=>⟨_,H,I.kept k, ?_,q⟩
 by_cases hj:j>i
 · rw[if_pos hj,if_pos hj];exact⟨_,rfl⟩
 · rw[if_neg hj,if_neg hj];exact⟨_,rfl⟩
theorem jO(hc:X.calm=true):CallR X (.builtin "min") (fun xs H Q=>∃i j,xs=[.int i, .int j]∧Q (.int (if j<i then j else i)) H):=by
 intro pins s σ H xs us Q I r h
 obtain⟨i,j,rfl,q⟩:=h
 obtain⟨u,w',rfl,⟨t,rfl⟩,⟨t',rfl⟩⟩:=xR r
 refine min_two_ints (I.ok.hd hc) fun h' tk k=>⟨_,H,I.kept k, ?_,q⟩
 by_cases hj:j<i
 · rw[if_pos hj,if_pos hj];exact⟨_,rfl⟩
 · rw[if_neg hj,if_neg hj];exact⟨_,rfl⟩
end
structure ObjM(h:Heap)(x dx C:Addr)(mA:Str→Option Value):Prop where
 obj:h.get? x=some (W.instObj C dx)
 ns:h.Ns1 dx mA
 ne:dx≠x
theorem tQ{h:Heap}{dx:Addr}{mA:Str→Option Value}(n:h.Ns1 dx mA):∃od,h.get? dx=some od∧∀name,W.lookIn name od=some (mA name):=by
 obtain⟨o,es,ep,ho,hd,hk,_,hm⟩:=n
 refine⟨o,ho,fun name=> ?_⟩
 have e:=hm name
 unfold nsFind findBy at e
 rw[←Array.find?_toList] at e
 unfold W.lookIn
 rw[hd]
 dsimp only
 split
 · rename_i y q
   rw[q] at e
   exact congrArg some e
 · rename_i q
   rw[q] at e
   have a:es.toList.any (·.refKey)=false:=by
    rw[List.any_eq_false]
    intro y hy
    obtain⟨z,t,hkey⟩:=hk y (Array.mem_toList_iff.mp hy)
    simp[DictEntry.refKey,hkey]
   have a':¬es.toList.any (·.refKey)=true:=by rw[a];exact Bool.false_ne_true
   rw[if_neg a']
   exact congrArg some e
theorem ObjM.look{h:Heap}{x dx C:Addr}{mA:Str→Option Value}(I:ObjM h x dx C mA):∃od,W.InstAt h x (W.instObj C dx) C (some od)∧∀name,W.lookIn name od=some (mA name):=
 let⟨od,ho,hl⟩:=tQ I.ns
 ⟨od,⟨I.obj,rfl,rfl,ho⟩,hl⟩
section
variable{prog:Program}{w:World}{A:Around}{E:Value→Shared→Prop}{s:Shared}{K:W.Frag}{x dx C f:Addr}{mA:Str→Option Value}{name:Str}{v:Value}
theorem wp{expr:Bool}{Q:Value→Shared→Prop}(X:K.In s.heap)(I:ObjM s.heap x dx C mA)(hg:W.plainGet K C name=true)(hh:W.hasDictIn K C=true)
 (ha:W.findIn K (.ref C) name=some none)(hv:mA name=some v)(hv':W.handedIn v=true)(h:Q v {s with toks:=s.toks+1}):
 wpAny (model prog w) A (getAttr (.ref x) name expr) Q E s:=by
 obtain⟨od,J,hl⟩:=I.look
 exact W.get_value X J (W.plainGet_of hg).1 (W.findObj_own hh ha rfl (by rw[hl,hv])) hv' h
theorem wq{ns:List Str}{Q:Unit→Shared→Prop}(X:K.In s.heap)(I:ObjM s.heap x dx C mA)
 (hs:W.findIn K (.ref C) "__setattr__"=some (some (.builtin "object.__setattr__")))(hp:W.plainOver K C=true)(ht:W.takerIn K C name=some none)(hh:W.hasDictIn K C=true)
 (hw:PySem.Within mA ns)(hsz:ns.length≤sizeLine)
 (h:∀h',ObjM h' x dx C (fun y=>if y=name then some v else mA y)→Heap.SameBut dx s.heap h'→Q () {s with heap:=h',toks:=s.toks+2}):
 wpAny (model prog w) A (setAttr (.ref x) name v) Q E s:=by
 obtain⟨od,J,hl⟩:=I.look
 refine W.set_plain X J hs (W.osa_open (s:={s with toks:=s.toks+1}) (r:=none) X J hp ht fun b=> ?_)
 obtain⟨cd,hc,hd'⟩:=W.any_some hh
 have hx:s.heap.get? x=some ⟨.ref C,some dx, .plain,#[]⟩:=I.obj
 refine wpAny_bind (wpAny_pure (wpAny_bind (wpAny_bind (wpAny_loadPart hx (wpAny_bind (W.Looks.here (s:={s with toks:=s.toks+1}) (W.looks_clsIn X hc) ?_))))))
 rw[hd']
 refine wpAny_pure (a:=some dx) (wpAny_bind (wpAny_pure (wpAny_bind ?_)))
 refine wpAny_nsSet1 (s:={s with toks:=s.toks+1}) I.ns fun h' hn2 hs2=> ?_
 obtain⟨oD,esD,epD,hoD,hdD,hcD⟩:=hn2.count (PySem.Within.cons name v hw)
 refine wpAny_bind (wpAny_lookBehind hoD (by rw[hdD];exact pastItsLine_dict (Nat.le_trans hcD (by rw[List.length_cons];omega))) ?_)
 exact wpAny_pure (h _ ⟨(hs2.2 _ (Ne.symm I.ne)).trans I.obj,hn2,I.ne⟩ hs2)
theorem uB{R:Result→Shared→Prop}{vs:List Value}{kw:List (Str×Value)}(X:K.In s.heap)(hm:W.makesIn K C=true)
 (hi:W.findIn K (.ref C) "__init__"=some (some (.ref f)))(hf:W.typeIn K (.ref f)=some (.type "function"))
 (h:codeAny (model prog w) (A.under (.builtin "type.__call__" ⟨.ref C::vs,kw⟩)) (.call (.ref f) ⟨.ref (s.heap.objs.size+1)::vs,kw⟩) (W.InitBack (s.heap.objs.size+1) R)
  {s with heap:=(s.heap.push W.emptyDict).push (W.instObj C s.heap.objs.size)}):
 codeAny (model prog w) A (.call (.ref C) ⟨vs,kw⟩) R s:=by
 obtain⟨hh,g,d,t,os⟩:=s
 exact W.make_core (W.makes_of X hm) (W.looks_findIn X hi) (fun self=>W.bind_fn X self hf) (.inl rfl) h
end
def iQ(f:Str)(v:V):List (Str×V)→List (Str×V)
 |[]=>[(f,v)]
 |(g,x)::r=>if g=f then(g,v)::r else(g,x)::iQ f v r
theorem gN(f g:Str)(v:V):∀fs:List (Str×V),(iQ f v fs).lookup g=if g=f then some v else fs.lookup g
 |[]=>by
  show List.lookup g [(f,v)]=_
  by_cases h:g=f
  · have hb:(g==f)=true:=beq_iff_eq.mpr h
    simp only[List.lookup,hb,if_pos h]
  · have hb:(g==f)=false:=beq_eq_false_iff_ne.mpr h
    simp only[List.lookup,hb,if_neg h]
 |(k,x)::r=>by
  have ih:=gN f g v r
  rw[show iQ f v ((k,x)::r)=(if k=f then(k,v)::r else(k,x)::iQ f v r) from rfl]
  by_cases hk:k=f
  · rw[if_pos hk]
    by_cases h:g=k
    · have hb:(g==k)=true:=beq_iff_eq.mpr h
      simp only[List.lookup,hb,if_pos (h.trans hk)]
    · have hb:(g==k)=false:=beq_eq_false_iff_ne.mpr h
      simp only[List.lookup,hb,if_neg (fun e:g=f=>h (e.trans hk.symm))]
  · rw[if_neg hk]
    by_cases h:g=k
    · have hb:(g==k)=true:=beq_iff_eq.mpr h
      simp only[List.lookup,hb,if_neg (fun e:g=f=>hk (h.symm.trans e))]
    · have hb:(g==k)=false:=beq_eq_false_iff_ne.mpr h
      simp only[List.lookup,hb]
      exact ih
theorem kR(f:Str)(v:V):∀fs:List (Str×V),f∈(iQ f v fs).map (·.1)∧∀g,g∈fs.map (·.1)→g∈(iQ f v fs).map (·.1)
 |[]=>⟨by simp[iQ],fun g h=>by simp at h⟩
 |(k,x)::r=>by
  obtain⟨i1,i2⟩:=kR f v r
  rw[show iQ f v ((k,x)::r)=(if k=f then(k,v)::r else(k,x)::iQ f v r) from rfl]
  by_cases hk:k=f
  · rw[if_pos hk]
    subst hk
    exact⟨by simp,fun g h=>by simpa using h⟩
  · rw[if_neg hk]
    refine⟨?_,fun g h=> ?_⟩
    · rw[List.map_cons]
      exact List.mem_cons_of_mem _ i1
    · rw[List.map_cons] at h ⊢
      rcases List.mem_cons.mp h with e|e
      · exact List.mem_cons.mpr (.inl e)
      · exact List.mem_cons_of_mem _ (i2 g e)
theorem lM(f:Str)(v:V):∀fs:List (Str×V),(iQ f v fs).length≤fs.length+1
 |[]=>by simp[iQ]
 |(k,x)::r=>by
  have ih:=lM f v r
  rw[show iQ f v ((k,x)::r)=(if k=f then(k,v)::r else(k,x)::iQ f v r) from rfl]
  by_cases hk:k=f
  · rw[if_pos hk,List.length_cons,List.length_cons];omega
  · rw[if_neg hk,List.length_cons,List.length_cons];omega
theorem RelO.some_of{v:V}{o:Option Value}(r:RelO (some v) o):∃u,o=some u∧RelV v u:=by
 cases o with
 |none=>exact(show False from r).elim
 |some u=>exact⟨u,rfl,r⟩
theorem tR{v:V}{u:Value}(r:RelV v u):W.handedIn u=true:=by
 cases v with
 |non=>cases (show u=Value.none from r);rfl
 |bl b=>cases (show u=Value.bool b from r);rfl
 |int i=>obtain⟨t,e⟩:=(show ∃t,u=Value.int i t from r);cases e;rfl
 |str x=>obtain⟨t,e⟩:=(show ∃t,u=Value.str x t from r);cases e;rfl
 |byt b=>obtain⟨t,e⟩:=(show ∃t,u=Value.bytes b t from r);cases e;rfl
 |flt b=>obtain⟨t,e⟩:=(show ∃t,u=Value.float b t from r);cases e;rfl
 |ref a=>cases (show u=Value.ref a from r);rfl
 |ty n=>cases (show u=Value.type n from r);rfl
section
variable{P:Program}{w:World}{H H':Hp}{h h':Heap}{a C dx:Addr}{fs fs':List (Str×V)}
theorem ml(hok:HOk P w H h)(e:H a=some (.ins C dx fs)):∃mA,ObjM h a dx C mA∧(∀f,RelO (fs.lookup f) (mA f))∧PySem.Within mA (fs.map (·.1))∧fs.length≤1000∧H dx=some (.own a):=by
 obtain⟨d,z,ne,ob,mA,n,r,q⟩:=(show ObjOk P w H h a (.ins C dx fs) from hok a _ e)
 exact⟨mA,⟨ob,n,ne⟩,r,q,z,d⟩
end
structure Cls(K:W.Frag)(C:Addr):Prop where
 pg:W.plainGet K C Str.empty=true
 hd:W.hasDictIn K C=true
 po:W.plainOver K C=true
 sa:W.findIn K (.ref C) "__setattr__"=some (some (.builtin "object.__setattr__"))
theorem Cls.get{K:W.Frag}{C:Addr}(c:Cls K C)(f:Str):W.plainGet K C f=true:=c.pg
def NoAttr(K:W.Frag)(C:Addr)(f:Str):Prop:=W.findIn K (.ref C) f=some none
theorem NoAttr.taker{K:W.Frag}{C:Addr}{f:Str}(n:NoAttr K C f):W.takerIn K C f=some none:=by
 unfold W.takerIn
 rw[show W.findIn K (.ref C) f=some none from n]
 rfl
section
variable{X:Cx}{pins:List (Addr×Obj)}{σ:St}{H:Hp}{s:Shared}{a C dx:Addr}{fs:List (Str×V)}{f:Str}{v:V}{A:Around}{E:Value→Shared→Prop}
theorem ro{b:Bool}{Q:Value→Shared→Prop}(I:Inv X pins σ H s)(e:H a=some (.ins C dx fs))(c:Cls X.K C)(n:NoAttr X.K C f)(l:fs.lookup f=some v)
 (h:∀u s',Inv X pins σ H s'→RelV v u→Q u s'):wpAny (model X.prog X.w) A (getAttr (.ref a) f b) Q E s:=by
 obtain⟨mA,O,r,_,_,_⟩:=ml I.hok e
 obtain⟨u,hu,ru⟩:=RelO.some_of (v:=v) (o:=mA f) (by rw[←l];exact r f)
 exact wp I.kIn O (c.get f) c.hd n hu (tR ru) (h u _ (I.tok _) ru)
theorem rp{y:V}{u:Value}{Q:Unit→Shared→Prop}(I:Inv X pins σ H s)(e:H a=some (.ins C dx fs))(c:Cls X.K C)(n:NoAttr X.K C f)(hl:fs.length<1000)(ry:RelV y u)
 (h:∀s',Inv X pins σ (upd H a (.ins C dx (iQ f y fs))) s'→Q () s'):wpAny (model X.prog X.w) A (setAttr (.ref a) f u) Q E s:=by
 obtain⟨mA,O,r,wi,_,ho⟩:=ml I.hok e
 have hz:(fs.map (·.1)).length≤sizeLine:=by rw[List.length_map,sizeLine_eq];omega
 refine wq I.kIn O c.sa c.po n.taker c.hd wi hz fun h' O' sb=>h _ ?_
 have hd:∃o,h'.get? dx=some o:=let⟨o,_,_,e',_⟩:=O'.ns;⟨o,e'⟩
 refine I.write (x:=a) (e:=dx) (by rw[e];exact True.intro) (.inr ho) (fun b q hb z=>(sb.2 b hb).trans z) hd ?_
 refine⟨by rw[bO O.ne];exact ho, ?_,O.ne,O'.obj,_,O'.ns,fun g=> ?_,fun g hg=> ?_⟩
 · have:=lM f y fs;omega
 · show RelO ((iQ f y fs).lookup g) (if g=f then some u else mA g)
   rw[gN]
   by_cases q:g=f
   · rw[if_pos q,if_pos q];exact ry
   · rw[if_neg q,if_neg q];exact r g
 · by_cases q:g=f
   · rw[q];exact(kR f y fs).1
   · refine(kR f y fs).2 g (wi g fun z=>hg ?_)
     show (if g=f then some u else mA g)=none
     rw[if_neg q];exact z
theorem Inv.made(I:Inv X pins σ H s):Inv X pins σ (upd (upd H s.heap.objs.size (.own (s.heap.objs.size+1))) (s.heap.objs.size+1) (.ins C s.heap.objs.size []))
 {s with heap:=(s.heap.push W.emptyDict).push (W.instObj C s.heap.objs.size)}:=by
 have e1:(s.heap.push W.emptyDict).get? s.heap.objs.size=some W.emptyDict:=Heap.get?_push_size s.heap rfl
 have e2:((s.heap.push W.emptyDict).push (W.instObj C s.heap.objs.size)).get? (s.heap.objs.size+1)=some (W.instObj C s.heap.objs.size):=by
  have:=Heap.get?_push_size (s.heap.push W.emptyDict) (o:=W.instObj C s.heap.objs.size) rfl
  rwa [Heap.size_push] at this
 have e3:(s.heap.push W.emptyDict).Ns s.heap.objs.size (fun _=>none):=⟨W.emptyDict,#[],_,e1,rfl,(fun e he=>absurd he (by simp)),fun _=>rfl⟩
 have I1:=I.laid (a:=s.heap.objs.size) (o:= .own (s.heap.objs.size+1)) (h':=s.heap.push W.emptyDict) (t':=s.toks) (fun b u q=>Heap.get?_push_of_some _ q) (Nat.le_refl _) ⟨_,e1⟩
 refine I1.laid (a:=s.heap.objs.size+1) (o:= .ins C s.heap.objs.size []) (t':=s.toks) (fun b u q=>Heap.get?_push_of_some _ q) (Nat.le_of_eq (Heap.size_push _ _)) ?_
 have ne:s.heap.objs.size≠s.heap.objs.size+1:=Nat.ne_of_lt (Nat.lt_succ_self _)
 refine⟨by rw[bO ne,bV],Nat.zero_le _,ne,e2,fun _=>none,(Heap.Ns1.of_empty e3).at fun o q=>Heap.get?_push_of_some _ q,fun _=>True.intro,fun y hy=>absurd rfl hy⟩
theorem wt{prog:Program}{w:World}{env:Env}{e:Expr}{f:Str}{pos:Pos}{s:Shared}{Q:Value→Shared→Prop}(hb:attributeBase e f env (eval e env)=eval e env)
 (h:wpAny (model prog w) A (eval e env) (fun o s₁=>wpAny (model prog w) A (getAttr o f true) Q E s₁) E s):wpAny (model prog w) A (eval (.Attribute e f pos) env) Q E s:=
 Attribute_any_ h (by rw[arm_eval_Attribute,hb])
end
def oZ(K:W.Frag)(ta:TE)(f:Str):TE:=fun σ H Q=>ta σ H fun x H1=>∃a C dx fs v,x= .ref a∧H1 a=some (.ins C dx fs)∧Cls K C∧NoAttr K C f∧fs.lookup f=some v∧Q v H1
def uC(K:W.Frag)(ta tv:TE)(f:Str):TS:=fun D σ H=>tv σ H fun y H1=>ta σ H1 fun x H2=>∃a C dx fs,x= .ref a∧H2 a=some (.ins C dx fs)∧Cls K C∧NoAttr K C f∧fs.length<1000∧
 D.nx σ (upd H2 a (.ins C dx (iQ f y fs)))
section
variable{X:Cx}{o e value:Expr}{f:Str}{pos pos' tpos:Pos}{ta tv:TE}
theorem bS(he:PE X e ta)(hb:attributeBase e f X.env (eval e X.env)=eval e X.env):PE X (.Attribute e f pos) (oZ X.K ta f):=by
 intro pins s σ H Q I h
 refine wt hb (thn (he pins s σ H _ I h) fun u s1 ⟨x,H1,I1,rx,a,C,dx,fs,v,ex,ea,c,n,l,q⟩=> ?_)
 subst ex
 obtain rfl:u=Value.ref a:=rx
 exact ro I1 ea c n l fun u' s2 I2 ru=>⟨v,H1,I2,ru,q⟩
theorem gW(ha:PE X o ta)(hv:PE X value tv)(hs:swapsWith value (some (.Attribute o f pos')) pos.line X.env=pure false):PS X (.Assign [.Attribute o f pos'] value pos) (uC X.K ta tv f):=by
 intro pins s σ H D I h
 refine plainObj_wpAny_Assign_Attribute (thn (hv pins s σ H _ I h) fun u s1 ⟨y,H1,I1,ry,q⟩=>thn (ha pins s1 σ H1 _ I1 q) fun ov s2 ⟨x,H2,I2,rx,a,C,dx,fs,ex,ea,c,n,l,q2⟩=> ?_) hs
 subst ex
 obtain rfl:ov=Value.ref a:=rx
 exact rp I2 ea c n l ry fun s3 I3=>⟨σ,_,I3,q2⟩
end
section
variable{X:Cx}{pins:List (Addr×Obj)}{σ:St}{H:Hp}{s:Shared}{A:Around}{E:Value→Shared→Prop}{Q:Value→Shared→Prop}{c:Value}{b:Bool}
inductive TyOf(K:W.Frag)(H:Hp):V→Value→Prop where
 |non:TyOf K H .non (.type "NoneType")
 |bl (x:Bool):TyOf K H (.bl x) (.type "bool")
 |int (i:Int):TyOf K H (.int i) (.type "int")
 |str (x:Str):TyOf K H (.str x) (.type "str")
 |flt (x:UInt64):TyOf K H (.flt x) (.type "float")
 |lst {a:Addr} {xs:List V} (e:H a=some (.lst xs)):TyOf K H (.ref a) (.type "list")
 |frz {a:Addr} {o:Obj} {xs:List V} (e:H a=some (.frz o (.lst xs))):TyOf K H (.ref a) (.type "list")
 |tup {a:Addr} {xs:List V} (e:H a=some (.tup xs)):TyOf K H (.ref a) (.type "tuple")
 |dK {a:Addr} {kvs:List (Key×V)} (e:H a=some (.dK kvs)):TyOf K H (.ref a) (.type "dict")
 |dT {a:Addr} {kvs:List (List Key×V)} (e:H a=some (.dT kvs)):TyOf K H (.ref a) (.type "dict")
 |ins {a C dx:Addr} {fs:List (Str×V)} (e:H a=some (.ins C dx fs)) (cl:Cls K C) (ha:W.findIn K (.ref C) "__class__"=some (some (.builtin "object.__class__")))
  (hn:W.specialIn K (.builtin "object.__class__") "__get__"=some (some (.builtin "getset_descriptor.__get__"))) (htk:W.takesIn K (.builtin "object.__class__")=some true)
  (hm:W.mroIn K C (.type "object")=some true):TyOf K H (.ref a) (.ref C)
theorem n4{x:V}{u t:Value}(I:Inv X pins σ H s)(rx:RelV x u)(ty:TyOf X.K H x t)(e:W.kitOne X.K t c=some b)(h:∀tk,Q (.bool b) {s with toks:=tk}):
 wpAny (model X.prog X.w) A (call (.builtin "isinstance") [u,c]) Q E s:=by
 cases ty with
 |non=>cases (show u=Value.none from rx);exact W.kia_one W.kitx_none I.kIn True.intro e (fun z=>nomatch z) h
 |bl y=>cases (show u=Value.bool y from rx);exact W.kia_one W.kitx_bool I.kIn True.intro e (fun z=>nomatch z) h
 |int i=>obtain⟨t,q⟩:=(show ∃t,u=Value.int i t from rx);cases q;exact W.kia_one W.kitx_int I.kIn True.intro e (fun z=>nomatch z) h
 |str y=>obtain⟨t,q⟩:=(show ∃t,u=Value.str y t from rx);cases q;exact W.kia_one W.kitx_str I.kIn True.intro e (fun z=>nomatch z) h
 |flt y=>obtain⟨t,q⟩:=(show ∃t,u=Value.float y t from rx);cases q;exact W.kia_one W.kitx_float I.kIn True.intro e (fun z=>nomatch z) h
 | @lst a xs ea=>
   cases (show u=Value.ref a from rx)
   obtain⟨_,_,n,_,h1⟩:=(show ObjOk X.prog X.w H s.heap a (.lst xs) from I.hok a _ ea)
   exact W.kia_one W.kitx_list I.kIn ⟨_,h1,rfl⟩ e (fun z=>nomatch z) h
 | @frz a ob xs ea=>
   cases (show u=Value.ref a from rx)
   obtain⟨_,_,_,n,_,h1⟩:=(show ObjOk X.prog X.w H s.heap a (.frz ob (.lst xs)) from I.hok a _ ea)
   exact W.kia_one W.kitx_list I.kIn ⟨_,h1,rfl⟩ e (fun z=>nomatch z) h
 | @tup a xs ea=>
   cases (show u=Value.ref a from rx)
   obtain⟨_,_,_,p⟩:=(show ObjOk X.prog X.w H s.heap a (.tup xs) from I.hok a _ ea)
   obtain⟨o,h1,h2,_⟩:=p
   exact W.kia_one W.kitx_tuple I.kIn ⟨o,h1,h2⟩ e (fun z=>nomatch z) h
 | @dK a kvs ea=>
   cases (show u=Value.ref a from rx)
   obtain⟨_,_,vs,_,p⟩:=(show ObjOk X.prog X.w H s.heap a (.dK kvs) from I.hok a _ ea)
   obtain⟨o,es,ep,h1,h2,_⟩:=p
   exact W.kia_one W.kitx_dict I.kIn ⟨o,h1,h2.1⟩ e (fun z=>nomatch z) h
 | @dT a kvs ea=>
   cases (show u=Value.ref a from rx)
   obtain⟨_,_,xs,_,o,es,ep,h1,h2,_⟩:=(show ObjOk X.prog X.w H s.heap a (.dT kvs) from I.hok a _ ea)
   exact W.kia_one W.kitx_dict I.kIn ⟨o,h1,h2.1⟩ e (fun z=>nomatch z) h
 | @ins a C dx fs ea cl ha hn htk hm=>
   cases (show u=Value.ref a from rx)
   obtain⟨mA,O,_⟩:=ml I.hok ea
   obtain⟨od,J,_⟩:=O.look
   exact W.kia_one (W.kitx_own (cl.get _) cl.hd ha hn htk hm) I.kIn J e (fun z=>nomatch z) h
end
structure Room(k:Nat)(A:Around):Prop where
 hd:A.handled=none
 dp:A.depth+3*k+5<recursionLimit
 un:A.units+16*k+200<cLine
theorem Room.mono{j k:Nat}{A:Around}(r:Room k A)(h:j≤k):Room j A:=⟨r.hd,by have:=r.dp;omega,by have:=r.un;omega⟩
theorem Room.deeper{k:Nat}{A:Around}(r:Room (k+1) A)(env:Env):Room k (A.deeper env):=
 ⟨r.hd,by have:=r.dp;show A.depth+1+3*k+5<_;omega,by have:=r.un;show A.units+3+16*k+200<_;omega⟩
theorem Room.in1{k:Nat}{A:Around}(r:Room (k+1) A):Room k A.in1:=
 ⟨r.hd,by have:=r.dp;show A.depth+3*k+5<_;omega,by have:=r.un;show A.units+1+16*k+200<_;omega⟩
theorem rq{A:Around}{C:Addr}{us:List Value}{kw:List (Str×Value)}:(A.under (.builtin "type.__call__" ⟨.ref C::us,kw⟩)).depth=A.depth+1:=by
 first|rfl|simp[Around.under,Code.weight,Code.isCreation,Code.isGuard,Code.isCaller,Code.frames,Code.isFrame,guardIds]
theorem rA{A:Around}{C:Addr}{us:List Value}{kw:List (Str×Value)}:(A.under (.builtin "type.__call__" ⟨.ref C::us,kw⟩)).units=A.units+1:=by
 first|rfl|simp[Around.under,Code.cUnits,Code.frames,Code.isFrame]
theorem Room.make{k:Nat}{A:Around}(r:Room (k+1) A)(C:Addr)(us:List Value)(kw:List (Str×Value)):Room k (A.under (.builtin "type.__call__" ⟨.ref C::us,kw⟩)):=
 ⟨r.hd,by have:=r.dp;rw[rq];omega,by have:=r.un;rw[rA];omega⟩
theorem Room.depth{k:Nat}{A:Around}(r:Room k A):A.depth<recursionLimit:=by have:=r.dp;omega
theorem Room.units{k:Nat}{A:Around}(r:Room k A):A.units+64<cLine:=by have:=r.un;omega
def kc:TA:=fun _ H Q=>Q [] H
def gv(ta:TE)(tr:TA):TA:=fun σ H Q=>ta σ H fun x H1=>tr σ H1 fun xs H2=>Q (x::xs) H2
section
variable{X:Cx}{e:Expr}{es:List Expr}{te:TE}{t:TA}{pos:Pos}
theorem av:PA X [] kc:=fun _ _ _ _ H Q I h=>Calls.spliced_nil ⟨[],H,I, .nil,h⟩
theorem ac(ha:PE X e te)(hr:PA X es t)(hs:starEach (e::es) X.env=(false,eval e X.env)::starEach es X.env:=by rfl):PA X (e::es) (gv te t):=by
 intro pos pins s σ H Q I h
 rw[hs]
 show wpAny _ _ (spliced ((false,eval e X.env)::backTo pos (starEach es X.env))) _ _ s
 refine Calls.spliced_cons (thn (ha pins s σ H _ I h) fun u s1 ⟨x,H1,I1,r1,q1⟩=> ?_)
 exact thn (hr pos pins s1 σ H1 _ I1 q1) fun us s2 ⟨xs,H2,I2,r2,q2⟩=>⟨x::xs,H2,I2, .cons r1 r2,q2⟩
def yF(t:TA):TE:=fun σ H Q=>t σ H fun xs H1=>xs.length≤sizeLine∧∀p,H1 p=none→Q (.ref p) (upd H1 p (.tup xs))
def zX(t:TA):TE:=fun σ H Q=>t σ H fun xs H1=>xs.length≤sizeLine∧∀p,H1 p=none→Q (.ref p) (upd H1 p (.lst xs))
theorem e9{x1}(h:PA X es t):PE X (.Tuple es x1 pos) (yF t):=by
 intro pins s σ H Q I hq
 refine wpAny_Tuple_spliced (thn (h pos pins s σ H _ I hq) fun us s1 ⟨xs,H1,I1,r,z,q⟩=>⟨by rw[←r.length];exact z, ?_⟩)
 have hf:H1 s1.heap.objs.size=none:=I1.hok.fresh (Nat.le_refl _)
 refine⟨.ref s1.heap.objs.size,upd H1 s1.heap.objs.size (.tup xs),I1.laid (t':=s1.toks) (fun b u e=>Heap.get?_push_of_some _ e) (Nat.le_refl _) ?_,rfl,q _ hf⟩
 exact⟨z,us,r,⟨_,Heap.get?_push_size _ rfl,rfl,_,rfl⟩⟩
theorem dC(h:PA X es t):PE X (.List es pos) (zX t):=by
 intro pins s σ H Q I hq
 refine wpAny_List_spliced (thn (h pos pins s σ H _ I hq) fun us s1 ⟨xs,H1,I1,r,z,q⟩=>⟨by rw[←r.length];exact z, ?_⟩)
 have hf:H1 s1.heap.objs.size=none:=I1.hok.fresh (Nat.le_refl _)
 refine⟨.ref s1.heap.objs.size,upd H1 s1.heap.objs.size (.lst xs),I1.laid (t':=s1.toks) (fun b u e=>Heap.get?_push_of_some _ e) (Nat.le_refl _) ?_,rfl,q _ hf⟩
 exact⟨z,us,0,r,Heap.get?_push_size _ rfl⟩
end
abbrev Sp:=List V→Hp→VK→XK→Prop
abbrev CXT:=List Env→Hp→Shared→XK→Value→Shared→Prop
structure Env0(P:Program)(w:World)(K:W.Frag)(mg:Str→Option Value)(base:Heap)(A:Around)(outer:List Env)(s:Shared)(H:Hp):Prop where
 frames:A.frames=some outer
 mod:Mod K mg base
 bs:∀b o,base.get? b=some o→s.heap.get? b=some o∧H b=none
 bsz:base.objs.size≤s.heap.objs.size
 funs:s.heap.FunFrames base outer
 frf:∀b∈frs outer,H b=none
 hok:HOk P w H s.heap
 bare:AllBare s.gens
def CE(outer:List Env)(P:Program)(w:World)(H:Hp)(s:Shared)(Q:VK)(u:Value)(s':Shared):Prop:=
 ∃v H',s'.os=s.os∧AllBare s'.gens∧Un (frs outer) [] H H' s.heap s'.heap∧HOk P w H' s'.heap∧RelV v u∧Q v H'
def CR(CX:CXT)(outer:List Env)(P:Program)(w:World)(H:Hp)(s:Shared)(Q:VK)(E:XK)(r:Result)(s':Shared):Prop:=
 match r with
 | .ok (.ret u)=>CE outer P w H s Q u s'
 | .ok _=>False
 | .error e=>CX outer H s E e s'
structure FnOk(P:Program)(w:World)(K:W.Frag)(mg:Str→Option Value)(base:Heap)(CX:CXT)(k:Nat)(f:Addr)(fd:FuncData)(ps:List Str)(sp:Sp):Prop where
 len:∀vs H Q E,sp vs H Q E→vs.length=ps.length
 run:∀(A:Around) (outer:List Env) (s:Shared) (H:Hp) (args:Args) (us:List Value) (vs:List V) (Q:VK) (E:XK),Room k A→Env0 P w K mg base A outer s H→BindsTo s fd args (ps.zip us)→Vals vs us→sp vs H Q E→
  codeAny (model P w) A (.call (.ref f) args) (CR CX outer P w H s Q E) s
theorem FnOk.mono{P:Program}{w:World}{K:W.Frag}{mg:Str→Option Value}{base:Heap}{CX:CXT}{j k:Nat}{f:Addr}{fd:FuncData}{ps:List Str}{sp:Sp}(F:FnOk P w K mg base CX j f fd ps sp)(h:j≤k):
 FnOk P w K mg base CX k f fd ps sp:=⟨F.len,fun A outer s H args us vs Q E hr=>F.run A outer s H args us vs Q E (hr.mono h)⟩
theorem FnOk.imp{P:Program}{w:World}{K:W.Frag}{mg:Str→Option Value}{base:Heap}{CX:CXT}{k:Nat}{f:Addr}{fd:FuncData}{ps:List Str}{sp sp':Sp}(F:FnOk P w K mg base CX k f fd ps sp)
 (h:∀vs H Q E,sp' vs H Q E→sp vs H Q E):FnOk P w K mg base CX k f fd ps sp':=
 ⟨fun vs H Q E q=>F.len vs H Q E (h _ _ _ _ q),fun A outer s H args us vs Q E hr he hb hv hs=>F.run A outer s H args us vs Q E hr he hb hv (h _ _ _ _ hs)⟩
theorem Env0.make{P:Program}{w:World}{K:W.Frag}{mg:Str→Option Value}{base:Heap}{A:Around}{outer:List Env}{s:Shared}{H:Hp}(e:Env0 P w K mg base A outer s H)(C:Addr)(us:List Value)(kw:List (Str×Value)):
 Env0 P w K mg base (A.under (.builtin "type.__call__" ⟨.ref C::us,kw⟩)) outer s H:=⟨by first|exact e.frames|(simpa [Around.under,Code.envs,Code.isFrame,pushEnvs] using e.frames),e.mod,e.bs,e.bsz,e.funs,e.frf,e.hok,e.bare⟩
theorem Env0.in1{P:Program}{w:World}{K:W.Frag}{mg:Str→Option Value}{base:Heap}{A:Around}{outer:List Env}{s:Shared}{H:Hp}(e:Env0 P w K mg base A outer s H):
 Env0 P w K mg base A.in1 outer s H:=⟨e.frames,e.mod,e.bs,e.bsz,e.funs,e.frf,e.hok,e.bare⟩
section
variable{X:Cx}{pins:List (Addr×Obj)}{σ:St}{H:Hp}{s s':Shared}
theorem Inv.env0(I:Inv X pins σ H s):Env0 X.prog X.w X.K X.mg X.base X.A X.stack s H:=
 ⟨I.ok.frames,I.ok.mod,I.bs,Nat.le_trans I.ok.bsz I.sz,I.stack,I.stkFree,I.hok,I.bare⟩
theorem Inv.after{Q:VK}{u:Value}(I:Inv X pins σ H s)(h:CE X.stack X.prog X.w H s Q u s'):EP X pins σ Q u s':=by
 obtain⟨v,H',os,bare,un,hok,r,q⟩:=h
 obtain⟨hh,g,d,t,os'⟩:=s'
 obtain rfl:os'=s.os:=os
 exact⟨v,H',I.call (h':=hh) (g':=g) (d':=d) (t':=t) (ch:=[]) un hok bare (fun b z=>absurd z (by simp)),r,q⟩
end
def n5(sp:Sp)(dvs:List V)(E:XK)(t:TA):TE:=fun σ H Q=>t σ H fun vs H1=>sp (vs++dvs) H1 Q E
def sj(C:Addr)(sp:Sp)(dvs:List V)(E:XK)(t:TA):TE:=fun σ H Q=>t σ H fun vs H1=>∀x dx,H1 x=none→H1 dx=none→dx≠x→
 sp (.ref x::(vs++dvs)) (upd (upd H1 dx (.own x)) x (.ins C dx [])) (fun v H2=>v= .non∧Q (.ref x) H2) E
def Binds(K:W.Frag)(fd:FuncData)(ps:List Str)(ds:List Value):Prop:=
 ∀(s:Shared) (us:List Value),K.In s.heap→(us++ds).length=ps.length→BindsTo s fd ⟨us,[]⟩ (ps.zip (us++ds))
theorem Binds.all{K:W.Frag}{fd:FuncData}{ps:List Str}(h:∀us:List Value,us.length=ps.length→bindArgs fd ⟨us,[]⟩=pure (ps.zip us)):Binds K fd ps []:=fun s us _ hl=>by
 rw[List.append_nil] at hl ⊢
 exact .of_eq (h us hl)
def mI(CX:CXT)(X:Cx)(E:XK):Prop:=∀(pins:List (Addr×Obj)) (σ:St) (H:Hp) (s:Shared) (e:Value) (s':Shared),Inv X pins σ H s→CX X.stack H s E e s'→X.xe e s'
section
variable{X:Cx}{CX:CXT}{k:Nat}{f C:Addr}{fd:FuncData}{ps:List Str}{sp:Sp}{dvs:List V}{ds:List Value}{E:XK}{x m:Str}{p pos apos:Pos}{e o:Expr}{es:List Expr}{ta:TE}{t:TA}
theorem yG{pins:List (Addr×Obj)}{σ:St}{H:Hp}{s:Shared}{Q:VK}{us:List Value}{vs:List V}(F:FnOk X.prog X.w X.K X.mg X.base CX k f fd ps sp)(hr:Room k X.A)(hb:Binds X.K fd ps ds)(hd:Vals dvs ds)(hx:mI CX X E)
 (I:Inv X pins σ H s)(r:Vals vs us)(h:sp (vs++dvs) H Q E):wpAny (model X.prog X.w) X.A (call (.ref f) us) (EP X pins σ Q) X.xe s:=by
 have r2:Vals (vs++dvs) (us++ds):=r.append hd
 have hl:(us++ds).length=ps.length:=by rw[←r2.length];exact F.len _ _ _ _ h
 refine wpAny_call (codeAny_mono (F.run X.A X.stack s H ⟨us,[]⟩ (us++ds) (vs++dvs) Q E hr I.env0 (hb s us I.kIn hl) r2 h) fun r s' hq=> ?_)
 cases r with
 |error e=>exact hx pins σ H s e s' I hq
 |ok fl=>
  cases fl with
  |ret u=>exact I.after hq
  |next=>exact False.elim hq
  |brk=>exact False.elim hq
  |cont=>exact False.elim hq
theorem wu(F:FnOk X.prog X.w X.K X.mg X.base CX k f fd ps sp)(hr:Room k X.A)(hg:Gl X x)(hm:X.mg x=some (.ref f))(hk:W.keepIn X.K (.ref f)=true)(hb:Binds X.K fd ps ds)(hd:Vals dvs ds)(hx:mI CX X E)
 (ha:PA X (e::es) t)(hdb:(x==("__debug__":Str))=false:=by decide)(he:starEach (e::es) X.env=(false,eval e X.env)::starEach es X.env:=by rfl)(hpl:(backTo pos (starEach es X.env)).any (·.1)=false:=by rfl):
 PE X (.Call (.Name x p) (e::es) [] pos) (n5 sp dvs E t):=by
 intro pins s σ H Q I h
 refine wpAny_Call_Name_kw (oY I hg hm ?_ hdb)
 refine W.callWith_K (h₀:=X.base) I.ok.mod.kin hk (thn (ha pos pins s σ H _ I h) fun us s1 ⟨vs,H1,I1,r,q⟩=>⟨I1.kIn, ?_⟩) he hpl
 exact yG F hr hb hd hx I1 r q
structure Mk(K:W.Frag)(C f:Addr):Prop where
 makes:W.makesIn K C=true
 init:W.findIn K (.ref C) "__init__"=some (some (.ref f))
 fn:W.isFn K (.ref f)=true
 kp:W.keepIn K (.ref C)=true
theorem uE{pins:List (Addr×Obj)}{σ:St}{H:Hp}{s:Shared}{Q:VK}{us:List Value}{vs:List V}(M:Mk X.K C f)(F:FnOk X.prog X.w X.K X.mg X.base CX k f fd ps sp)(hr:Room (k+1) X.A)(hb:Binds X.K fd ps ds)(hd:Vals dvs ds)
 (hx:mI CX X E)(I:Inv X pins σ H s)(r:Vals vs us)
 (h:∀x dx,H x=none→H dx=none→dx≠x→sp (.ref x::(vs++dvs)) (upd (upd H dx (.own x)) x (.ins C dx [])) (fun v H2=>v= .non∧Q (.ref x) H2) E):
 wpAny (model X.prog X.w) X.A (call (.ref C) us) (EP X pins σ Q) X.xe s:=by
 have hq:=h (s.heap.objs.size+1) s.heap.objs.size (I.hok.fresh (Nat.le_succ _)) (I.hok.fresh (Nat.le_refl _)) (Nat.ne_of_lt (Nat.lt_succ_self _))
 have I2:=Inv.made (C:=C) I
 have r2:Vals (V.ref (s.heap.objs.size+1)::(vs++dvs)) (Value.ref (s.heap.objs.size+1)::(us++ds)):= .cons rfl (r.append hd)
 have hl:(Value.ref (s.heap.objs.size+1)::us++ds).length=ps.length:=by
  have e:=r2.length
  rw[F.len _ _ _ _ hq] at e
  exact e.symm
 refine wpAny_call (uB (f:=f) I.kIn M.makes M.init (beq_iff_eq.mp M.fn) (codeAny_mono (F.run _ X.stack _ _ ⟨Value.ref (s.heap.objs.size+1)::us,[]⟩ (Value.ref (s.heap.objs.size+1)::(us++ds)) _ _ E (hr.make C us [])
  (I2.env0.make C us []) (hb _ (Value.ref (s.heap.objs.size+1)::us) I2.kIn hl) r2 hq) fun r s' hq'=> ?_))
 cases r with
 |error e=>exact hx pins σ _ _ e s' I2 hq'
 |ok fl=>
  cases fl with
  |ret u=>
   obtain⟨v,H',I3,rv,ev,q3⟩:=I2.after hq'
   subst ev
   exact⟨rv,⟨V.ref (s.heap.objs.size+1),H',I3,rfl,q3⟩⟩
  |next=>exact False.elim hq'
  |brk=>exact False.elim hq'
  |cont=>exact False.elim hq'
theorem wv(M:Mk X.K C f)(F:FnOk X.prog X.w X.K X.mg X.base CX k f fd ps sp)(hr:Room (k+1) X.A)(hg:Gl X x)(hm:X.mg x=some (.ref C))(hb:Binds X.K fd ps ds)(hd:Vals dvs ds)(hx:mI CX X E)
 (ha:PA X (e::es) t)(hdb:(x==("__debug__":Str))=false:=by decide)(he:starEach (e::es) X.env=(false,eval e X.env)::starEach es X.env:=by rfl)(hpl:(backTo pos (starEach es X.env)).any (·.1)=false:=by rfl):
 PE X (.Call (.Name x p) (e::es) [] pos) (sj C sp dvs E t):=by
 intro pins s σ H Q I h
 refine wpAny_Call_Name_kw (oY I hg hm ?_ hdb)
 refine W.callWith_K (h₀:=X.base) I.ok.mod.kin M.kp (thn (ha pos pins s σ H _ I h) fun us s1 ⟨vs,H1,I1,r,q⟩=>⟨I1.kIn, ?_⟩) he hpl
 exact uE M F hr hb hd hx I1 r q
end
def PK(X:Cx)(kws:List Keyword)(t:TA):Prop:=
 ∀(pos:Pos) (pins:List (Addr×Obj)) (s:Shared) (σ:St) (H:Hp) (Q:List V→Hp→Prop),Inv X pins σ H s→t σ H Q→wpAny (model X.prog X.w) X.A (evalAll ((backToKw pos (keywordEach kws X.env)).map (·.2))) (AP X pins σ Q) X.xe s
section
variable{X:Cx}{CX:CXT}{k:Nat}{f C:Addr}{fd:FuncData}{ps ks:List Str}{sp:Sp}{E:XK}{x m:Str}{p pos apos kpos:Pos}{e o:Expr}{es:List Expr}{kws:List Keyword}{te ta:TE}{t tk:TA}{nm:Option Str}
theorem yH:PK X [] kc:=fun _ _ _ _ H Q I h=>wpAny_evalAll_nil ⟨[],H,I, .nil,h⟩
theorem ww(ha:PE X e te)(hr:PK X kws t):PK X (⟨nm,e,kpos⟩::kws) (gv te t):=by
 intro pos pins s σ H Q I h
 show wpAny _ _ (evalAll ((do let v ←eval e X.env;standAt pos;pure v)::(backToKw pos (keywordEach kws X.env)).map (·.2))) _ _ s
 refine wpAny_evalAll_cons (wpAny_bind (thn (ha pins s σ H _ I h) fun u s1 ⟨x,H1,I1,r1,q1⟩=>wpAny_bind (wpAny_standAt (wpAny_pure ?_))))
 exact thn (hr pos pins s1 σ H1 _ I1 q1) fun us s2 ⟨xs,H2,I2,r2,q2⟩=>⟨x::xs,H2,I2, .cons r1 r2,q2⟩
variable{g:List Value→List Value→List Value}{gV:List V→List V→List V}
end
structure FnScope(N P:List Str)(sc:Scope):Prop where
 kind:sc.kind= .function
 co:sc.isCoroutine=false
 gen:sc.isGenerator=false
 nd:N.Nodup
 pre:N.take P.length=P
 par:∀x∈P,sc.names.lookup x=some .local∨sc.names.lookup x=some .cell
 nofree:∀y∈sc.names,y.2≠ .free
theorem n6{kindOf:Str→Option NameKind}{x:Str}:∀{binds:List (Str×Value)} {m:Str→Option Value},(∀v,(x,v)∉binds)→bindL kindOf binds m x=m x
 |[],_,_=>rfl
 |(n,v)::r,m,h=>by
  unfold bindL
  rw[n6 fun w hw=>h w (List.mem_cons_of_mem _ hw)]
  split
  · have:x≠n:=by rintro rfl;exact h v List.mem_cons_self
    simp[this]
  · rfl
theorem n9{kindOf:Str→Option NameKind}{x:Str}:∀{binds:List (Str×Value)} {m:Str→Option Value},(∀v,(x,v)∉binds)→bindC kindOf binds m x=m x
 |[],_,_=>rfl
 |(n,v)::r,m,h=>by
  unfold bindC
  rw[n9 fun w hw=>h w (List.mem_cons_of_mem _ hw)]
  split
  · rfl
  · have:x≠n:=by rintro rfl;exact h v List.mem_cons_self
    simp[this]
theorem oa{kindOf:Str→Option NameKind}{x:Str}{v:Value}:∀{P:List Str} {vs:List Value} {i:Nat} {m:Str→Option Value},P.Nodup→P[i]? =some x→vs[i]? =some v→kindOf x=some .local→
 bindL kindOf (P.zip vs) m x=some v
 |[],_,_,_,_,h,_,_=>by simp at h
 |_::_,[],_,_,_,_,h,_=>by simp at h
 |p::P,w::vs,0,m,nd,h1,h2,hk=>by
  simp at h1 h2;subst h1;subst h2
  show bindL kindOf ((p,w)::P.zip vs) m p=_
  unfold bindL
  rw[n6 fun v hv=>(List.nodup_cons.mp nd).1 (List.of_mem_zip hv).1,if_pos hk]
  simp
 |p::P,w::vs,i+1,m,nd,h1,h2,hk=>by
  show bindL kindOf ((p,w)::P.zip vs) m x=_
  unfold bindL
  exact oa (i:=i) (List.nodup_cons.mp nd).2 (by simpa using h1) (by simpa using h2) hk
theorem og{kindOf:Str→Option NameKind}{x:Str}{v:Value}:∀{P:List Str} {vs:List Value} {i:Nat} {m:Str→Option Value},P.Nodup→P[i]? =some x→vs[i]? =some v→kindOf x≠some .local→
 bindC kindOf (P.zip vs) m x=some v
 |[],_,_,_,_,h,_,_=>by simp at h
 |_::_,[],_,_,_,_,h,_=>by simp at h
 |p::P,w::vs,0,m,nd,h1,h2,hk=>by
  simp at h1 h2;subst h1;subst h2
  show bindC kindOf ((p,w)::P.zip vs) m p=_
  unfold bindC
  rw[n9 fun v hv=>(List.nodup_cons.mp nd).1 (List.of_mem_zip hv).1,if_neg hk]
  simp
 |p::P,w::vs,i+1,m,nd,h1,h2,hk=>by
  show bindC kindOf ((p,w)::P.zip vs) m x=_
  unfold bindC
  exact og (i:=i) (List.nodup_cons.mp nd).2 (by simpa using h1) (by simpa using h2) hk
def start(N:List Str)(vs:List V):St:=vs.map some++List.replicate (N.length-vs.length) none
def tS(CX:CXT)(P:Program)(w:World)(K:W.Frag)(mg:Str→Option Value)(base:Heap)(N:List Str)(qual:Str)(scope:Scope)(f:Addr)(cd:Value)(A:Around)(outer:List Env)(s:Shared)(H:Hp)(E:XK):Cx where
 prog:=P
 w:=w
 K:=K
 mg:=mg
 base:=base
 A:=A.deeper (envOfC qual scope s.heap.objs.size f cd)
 N:=N
 s₀:=s
 H₀:=H
 env:=envOfC qual scope s.heap.objs.size f cd
 outer:=outer
 stack:=envOfC qual scope s.heap.objs.size f cd::outer
 ex:=[]
 calm:=true
 fn:=fun _=>true
 pn:=[]
 xe:=fun e s'=>wpAny (model P w) (A.deeper (envOfC qual scope s.heap.objs.size f cd)) (leaving (envOfC qual scope s.heap.objs.size f cd) e) (fun _ s''=>CX outer H s E e s'') (fun e' s''=>CX outer H s E e' s'') s'
theorem qv{sc:Scope}{n:Nat}{x:Str}(h:sc.names.lookup x=some .cell):∃c,(cellsFrom n sc.names []).lookup x=some c:=by
 have q:=W.cellsFrom_some sc.names n [] (.inl h)
 exact Option.isSome_iff_exists.mp q
theorem tT{CX:CXT}{P:Program}{w:World}{K:W.Frag}{mg:Str→Option Value}{base:Heap}{N ps:List Str}{qual:Str}{scope:Scope}{f:Addr}{cd:Value}{A:Around}{outer:List Env}{s s1:Shared}{H:Hp}{E:XK}{us:List Value}{vs:List V}
 (S:FnScope N ps scope)(hd:A.handled=none)(e0:Env0 P w K mg base A outer s H)(hl:vs.length=ps.length)(r:Vals vs us)
 (x:InCallC s s.heap.objs.size (bindL (envOfC qual scope s.heap.objs.size f cd).kindOf (ps.zip us) fun _=>none) (cellsFrom (s.heap.objs.size+1) scope.names []) (bindC (envOfC qual scope s.heap.objs.size f cd).kindOf (ps.zip us) fun _=>none) s1):
 Inv (tS CX P w K mg base N qual scope f cd A outer s H E) [] (start N vs) H s1:=by
 have hpl:ps.length≤N.length:=by have:=congrArg List.length S.pre;rw[List.length_take] at this;omega
 obtain⟨h1,tk,rfl,hk⟩:=x.done
 have noA:∀b:Addr,b∉(tS CX P w K mg base N qual scope f cd A outer s H E).ex:=fun b z=>absurd (show b∈([]:List Addr) from z) (by simp)
 refine⟨⟨e0.mod,S.kind,rfl,rfl,Nat.le_refl _,fun y z c h1 h2=> ?_,fun y hy=> ?_,fun y c _ h=> ?_,fun _=>hd,Around.frames_deeper e0.frames, .inr ⟨rfl,rfl⟩,fun b z=>absurd z (noA b),e0.bs,e0.bsz,fun b _ _=>noA b,fun b z=>absurd z (noA b),e0.funs,e0.frf⟩,
  rfl,e0.bare,Un.kept hk,⟨_,x.toInCall.ns,fun i y v h1 h2 h3=> ?_⟩,fun y c h=>⟨_,x.cell y c h⟩,e0.hok.fresh (Nat.le_refl _),fun y c h=> ?_,fun p hp=>absurd (show p∈([]:List (Addr×Obj)) from hp) (by simp),e0.hok.kept hk, ?_⟩
 · exact name_of_addr x.apart (PySem.mem_of_lookup h1) (PySem.mem_of_lookup h2)
 · have hy:scope.names.lookup y=some .cell∨scope.names.lookup y=some .free:=hy
   rcases hy with hy|hy
   · exact qv hy
   · exact absurd rfl (S.nofree _ (PySem.mem_of_lookup hy))
 · exact Nat.le_of_lt (x.above y c (PySem.mem_of_lookup h))
 · have hi:i<vs.length:=by
    unfold start at h2
    by_cases hi:i<vs.length
    · exact hi
    · rw[List.getElem?_append_right (by simpa using hi)] at h2
      rw[List.getElem?_replicate] at h2
      split at h2<;>cases h2
   have ha:vs[i]? =some v:=by
    unfold start at h2
    rw[List.getElem?_append_left (by simpa using hi),List.getElem?_map] at h2
    cases e:vs[i]? with
    |none=>rw[e] at h2;cases h2
    |some a=>rw[e] at h2;cases h2;rfl
   obtain⟨u,hu,rv⟩:=r.get ha
   have hp:ps[i]? =some y:=by
    rw[←S.pre,List.getElem?_take_of_lt (by omega)];exact h1
   have ndP:ps.Nodup:=by rw[←S.pre];exact S.nd.sublist (List.take_sublist _ _)
   refine⟨u,rv, ?_⟩
   rcases S.par y (List.mem_of_getElem? hp) with k|k
   · exact .inl ⟨k,oa ndP hp hu k⟩
   · obtain⟨c,e⟩:=qv (n:=s.heap.objs.size+1) k
     refine .inr ⟨.inl k,c,e, ?_⟩
     have q:=x.cell y c e
     rw[og ndP hp hu (by show scope.names.lookup y≠_;rw[k];decide)] at q
     exact q
 · exact e0.hok.fresh (Nat.le_of_lt (x.above y c (PySem.mem_of_lookup h)))
 · unfold start
   show _=N.length
   rw[List.length_append,List.length_map,List.length_replicate]
   omega
theorem zY{CX:CXT}{P:Program}{w:World}{K:W.Frag}{mg:Str→Option Value}{base:Heap}{k:Nat}{f:Addr}{name qual:Str}{params:Arguments}{body:List Stmt}{scope:Scope}{dV kV doc pm cdv ct oc:Value}{an od:Option Addr}
 {osl:Array (Option Value)}{N ps:List Str}{sp:Sp}(lk:K.lookup f=some ⟨oc,od, .func (W.fnOf name qual params body scope dV kV doc pm an cdv ct),osl⟩)(hcd:W.codeIn K cdv qual=true)(S:FnScope N ps scope)
 (len:∀vs H Q E,sp vs H Q E→vs.length=ps.length)
 (hbody:∀(A:Around) (outer:List Env) (s:Shared) (H:Hp) (vs:List V) (Q:VK) (E:XK),Room k (A.deeper (envOfC qual scope s.heap.objs.size f cdv))→sp vs H Q E→
  ∃t,PSs (tS CX P w K mg base N qual scope f cdv A outer s H E) body t∧t {nx:=fun _ H'=>Q .non H',rt:=Q} (start N vs) H):
 FnOk P w K mg base CX (k+1) f (W.fnOf name qual params body scope dV kV doc pm an cdv ct) ps sp:=by
 refine⟨len,fun A outer s H args us vs Q E hr e0 hb r hsp=> ?_⟩
 have hl:=len _ _ _ _ hsp
 have KX:K.In s.heap:=e0.mod.kin.keeps fun b o e=>(e0.bs b o e).1
 have lim:s.heap.NoLimit:=e0.mod.nolimit.keeps fun b o e=>(e0.bs b o e).1
 have hkind:∀y∈ps.zip us,scope.names.lookup y.1=some .local∨(scope.names.lookup y.1=some .cell∧((cellsFrom (s.heap.objs.size+1) scope.names []).lookup y.1).isSome=true):=fun⟨n,v⟩ hy=>by
  rcases S.par n (List.of_mem_zip hy).1 with q|q
  · exact .inl q
  · exact .inr ⟨q,W.cellsFrom_some _ _ _ (.inl q)⟩
 refine codeAny_call_function hr.depth (KX _ _ lk) rfl S.co S.gen rfl (W.codeRec_of KX hcd) (hb _ _ _ _ ?_)
 refine wpAny_newFunctionEnv_cells S.kind hkind fun env he s1 x=> ?_
 subst he
 refine⟨lim.keeps x.toInCall.keep,codeAny_func ?_⟩
 obtain⟨t,ht,hq⟩:=hbody A outer s H vs Q E (hr.deeper _) hsp
 have I:Inv (tS CX P w K mg base N qual scope f cdv A outer s H E) [] (start N vs) H s1:=tT S hr.hd e0 hl r x
 refine wpAny_mono (ht [] s1 (start N vs) H _ I hq) (fun fl s' hs=> ?_) fun e s' hs=>hs
 have fin:∀{σ':St} {H':Hp} {v:V} {u:Value},Inv (tS CX P w K mg base N qual scope f cdv A outer s H E) [] σ' H' s'→RelV v u→Q v H'→CE outer P w H s Q u s':=
  fun {σ' H' v u} J rv q=>⟨v,H',J.os,J.bare,J.base,J.hok,rv,q⟩
 cases fl with
 |ret u=>
  obtain⟨v,σ',H',J,rv,q⟩:=hs
  exact fin J rv q
 |next=>
  obtain⟨σ',H',J,q⟩:=hs
  exact fin (v:=V.non) (u:=Value.none) J rfl q
 |brk=>
  obtain⟨_,_,_,q⟩:=hs
  exact False.elim q
 |cont=>
  obtain⟨_,_,_,q⟩:=hs
  exact False.elim q
end L2
namespace L2
open PySem PySem.Spec PyProof.Rows
section
variable{X:Cx}{x:Str}{p pos:Pos}{e:Expr}{es:List Expr}{t:TA}{id T:String}{r:List V→Hp→VK→Prop}
def tCB(r:List V→Hp→VK→Prop)(t:TA):TE:=fun σ H Q=>t σ H fun vs H1=>r vs H1 Q
theorem bK(hc:CallR X (.builtin id) r)(hg:Gl X x)(hm:X.mg x=none)(hv:bootBuiltins x=some (.builtin id))(ha:PA X (e::es) t)(hn:x≠"__name__":=by decide)(hdb:(x==("__debug__":Str))=false:=by decide)
 (he:starEach (e::es) X.env=(false,eval e X.env)::starEach es X.env:=by rfl)(hpl:(backTo pos (starEach es X.env)).any (·.1)=false:=by rfl):PE X (.Call (.Name x p) (e::es) [] pos) (tCB r t):=by
 intro pins s σ H Q I h
 refine wpAny_Call_Name_kw (io I hg hm hv ?_ hn hdb)
 exact PyProof.Rows.callWith_builtin1 (thn (ha pos pins s σ H _ I h) fun us s1 ⟨vs,H1,I1,r1,q1⟩=>hc pins s1 σ H1 vs us Q I1 r1 q1) he hpl
theorem jP(hc:CallR X (.type T) r)(hg:Gl X x)(hm:X.mg x=none)(hv:bootBuiltins x=some (.type T))(ha:PA X (e::es) t)(hn:x≠"__name__":=by decide)(hdb:(x==("__debug__":Str))=false:=by decide)
 (he:starEach (e::es) X.env=(false,eval e X.env)::starEach es X.env:=by rfl)(hpl:(backTo pos (starEach es X.env)).any (·.1)=false:=by rfl):PE X (.Call (.Name x p) (e::es) [] pos) (tCB r t):=by
 intro pins s σ H Q I h
 refine wpAny_Call_Name_kw (io I hg hm hv ?_ hn hdb)
 exact PyProof.Rows.callWith_type1 (thn (ha pos pins s σ H _ I h) fun us s1 ⟨vs,H1,I1,r1,q1⟩=>hc pins s1 σ H1 vs us Q I1 r1 q1) he hpl
end
end L2
namespace HT
open PySem PyProof.Rows
section
open PySem.SeqAt
open PySem.AutoSeq1 (wpAny_loadPart')
open PySem.MeetsSeq PySem.MeetsSeq2 PySem.MeetsSeq3
end
section
variable{prog:Program}{w:World}{A:Around}{E:Value→Shared→Prop}{s:Shared}
theorem cat_tup{t b:Addr}{vs ws:List Value}{Q:Value→Shared→Prop}(ht:IsTup s.heap t vs.toArray)(hb:IsTup s.heap b ws.toArray)(hv:vs≠[])
 (h1:ws=[]→Q (.ref t) s)(h2:ws≠[]→Q (.ref s.heap.objs.size) {s with heap:=s.heap.push {cls:= .type "tuple",data:= .seq (vs++ws).toArray}})
 (hsz:vs.length+ws.length≤sizeLine):wpAny (model prog w) A (binaryOp .Add (.ref t) (.ref b)) Q E s:=by
 obtain⟨⟨cls,dd,data,sl⟩,ho,hc,n,hd⟩:=id ht
 obtain⟨⟨cls2,dd2,data2,sl2⟩,ho2,hc2,n2,hd2⟩:=id hb
 simp only at hc hd hc2 hd2
 subst hc hd hc2 hd2
 have e:vs.toArray++ws.toArray=(vs++ws).toArray:=by simp
 by_cases hw:ws=[]
 · exact concat_meets ⟨_,ho,rfl⟩ ⟨_,ho2,rfl⟩ noFill_tuple_add seq_tuple_add PySem.F.slot_tuple_add PySem.F.entry_tuple_add (PySem.F.args_tuple_add_2 _ _)
    (tuple_addW1 t b vs.toArray ws.toArray n n2 dd dd2 sl sl2 (by simpa using hv) (by simp[hw])) ⟨ho,ho2,h1 hw⟩
 · refine concat_meets ⟨_,ho,rfl⟩ ⟨_,ho2,rfl⟩ noFill_tuple_add seq_tuple_add PySem.F.slot_tuple_add PySem.F.entry_tuple_add (PySem.F.args_tuple_add_2 _ _)
    (tuple_addW2 t b vs.toArray ws.toArray n n2 dd dd2 sl sl2 (by simpa using hv) (by simpa using hw) (by rw[List.size_toArray,List.size_toArray];exact hsz)) ⟨ho,ho2, ?_⟩
   rw[e]
   exact h2 hw
def sIx(n d:Nat):Option Int→Nat
 |none=>d
 |some v=>if v<0 then(v+(n:Int)).toNat else min v.toNat n
theorem sIx_none(n d:Nat):sIx n d none=d:=rfl
theorem sIx_nat(n d k:Nat):sIx n d (some (k:Int))=min k n:=by
 show (if(k:Int)<0 then((k:Int)+(n:Int)).toNat else min (k:Int).toNat n)=min k n
 rw[if_neg (by omega),Int.toNat_natCast]
theorem yI(n d:Nat)(hd:d≤n)(o:Option Int):sIx n d o≤n:=by
 cases o with
 |none=>exact hd
 |some v=>
  show (if v<0 then(v+(n:Int)).toNat else min v.toNat n)≤n
  by_cases hv:v<0
  · rw[if_pos hv];omega
  · rw[if_neg hv];exact Nat.min_le_right _ _
theorem sk(v:Int)(n d:Nat):(if v<0 then max (v+(n:Int)) 0 else min v (n:Int))=((sIx n d (some v):Nat):Int):=by
 show (if v<0 then max (v+(n:Int)) 0 else min v (n:Int))=(((if v<0 then(v+(n:Int)).toNat else min v.toNat n):Nat):Int)
 by_cases hv:v<0
 · simp only[if_pos hv];omega
 · simp only[if_neg hv];omega
theorem rB(lo hi:Option Int)(n:Nat):Builtin.Slice.sliceAdjust lo hi 1 (n:Int)=(((sIx n 0 lo:Nat):Int),((sIx n n hi:Nat):Int)):=by
 have h1:¬((1:Int)<0):=by omega
 unfold Builtin.Slice.sliceAdjust
 simp only[h1,if_false]
 refine Prod.ext ?_ ?_
 · cases lo with
   |none=>rfl
   |some v=>exact sk v n 0
 · cases hi with
   |none=>rfl
   |some v=>exact sk v n n
theorem rD(i j:Nat):Builtin.Slice.slicePlaces (i:Int) (j:Int) 1=j-i:=by
 unfold Builtin.Slice.slicePlaces
 have h1:(1:Int)>0:=by omega
 simp only[h1,if_true,Int.ediv_one]
 split<;>omega
theorem mJ{v:Value}{o:Option Int}{Q:Option Int→Shared→Prop}(p:IsPart v o)(h:Q o s):wpAny (model prog w) A (Builtin.Slice.slicePartIndex v) Q E s:=by
 cases p with
 |none=>exact slicePart_none h
 |int i t=>exact slicePart_int h
theorem kS{sl:Addr}{vl vu:Value}{lo hi:Option Int}{n:Nat}{Q:Int×Int×Nat→Shared→Prop}(hs:s.heap.IsSliceOf sl vl vu .none)(pl:IsPart vl lo)(pu:IsPart vu hi)
 (h:Q (((sIx n 0 lo:Nat):Int),1,sIx n n hi-sIx n 0 lo) s):wpAny (model prog w) A (Builtin.Slice.sliceApplied (.ref sl) (pure (n:Int))) Q E s:=by
 obtain⟨os,hos,hcs,hds⟩:=id hs
 unfold Builtin.Slice.sliceApplied Builtin.Slice.sliceFields
 refine wpAny_bind (wpAny_bind (wpAny_field hos hds (x:=vl) rfl (wpAny_bind (wpAny_field hos hds (x:=vu) rfl (wpAny_bind (wpAny_field hos hds (x:= .none) rfl (wpAny_pure ?_)))))))
 refine wpAny_bind (slicePart_none ?_)
 show wpAny _ _ (if((1:Int)==0)=true then _ else _) _ _ s
 rw[if_neg (by decide)]
 refine wpAny_bind (mJ pl (wpAny_bind (mJ pu (wpAny_bind (wpAny_pure ?_)))))
 show wpAny _ _ (match Builtin.Slice.sliceAdjust lo hi 1 (n:Int) with|(lo,hi)=>pure (lo,(1:Int),Builtin.Slice.slicePlaces lo hi 1)) _ _ s
 rw[rB lo hi n]
 show wpAny _ _ (pure (((sIx n 0 lo:Nat):Int),(1:Int),Builtin.Slice.slicePlaces ((sIx n 0 lo:Nat):Int) ((sIx n n hi:Nat):Int) 1)) _ _ s
 rw[rD]
 exact wpAny_pure h
theorem uF(xs:Array Value)(i k:Nat):((List.range k).filterMap fun(m:Nat)=>xs[((i:Int)+(m:Int)*1).toNat]?).toArray=((xs.toList.drop i).take k).toArray:=by
 have e:(fun(m:Nat)=>xs[((i:Int)+(m:Int)*1).toNat]?)=fun m=>xs[i+m]? :=by
  funext m
  have:((i:Int)+(m:Int)*1).toNat=i+m:=by omega
  rw[this]
 rw[e]
 have:=pick_run xs i k
 rw[List.filterMap_map] at this
 have e2:((fun x=>xs[x]?)∘fun x=>i+x)=fun m=>xs[i+m]? :=rfl
 rw[e2] at this
 rw[this]
theorem getItem_tuple_cut{t sl:Addr}{items:Array Value}{vl vu:Value}{lo hi:Option Int}{Q:Value→Shared→Prop}(ht:IsTup s.heap t items)(hs:s.heap.IsSliceOf sl vl vu .none)(pl:IsPart vl lo)(pu:IsPart vu hi)
 (hw:¬(sIx items.size 0 lo=0∧sIx items.size items.size hi=items.size))
 (h:Q (.ref s.heap.objs.size) {s with heap:=s.heap.push {cls:= .type "tuple",data:= .seq ((items.toList.drop (sIx items.size 0 lo)).take (sIx items.size items.size hi-sIx items.size 0 lo)).toArray}})
 (hsz:items.size≤sizeLine):wpAny (model prog w) A (getItem (.ref t) (.ref sl)) Q E s:=by
 have htake:sizeOk (.seq ((items.toList.drop (sIx items.size 0 lo)).take (sIx items.size items.size hi-sIx items.size 0 lo)).toArray):=by
  show ((items.toList.drop (sIx items.size 0 lo)).take (sIx items.size items.size hi-sIx items.size 0 lo)).toArray.size≤sizeLine
  rw[List.size_toArray,List.length_take,List.length_drop,Array.length_toList]
  omega
 have hj:sIx items.size items.size hi≤items.size:=yI _ _ (Nat.le_refl _) hi
 obtain⟨os,hos,hcs,hds⟩:=id hs
 have hTs:s.TypeIs (.ref sl) "slice":=⟨os,hos,hcs⟩
 unfold getItem
 try with_reducible refine wpAny_holding ?_
 first|refine wpAny_bind (wpAny_pure ?_)|skip
 refine wpAny_bind (wpAny_sequenceKey ht.typeIs (by decide) ?_)
 refine wpAny_bind (wpAny_callSpecial?_slot (name:=Str.ofString "__getitem__") ht.typeIs PyProof.Rows.slot_tuple_getitem
  (wpAny_call_entry PyProof.Rows.slot_tuple_getitem ht.typeIs entry_tuple_getitem ?_ (args_tuple_getitem _ _)))
 show wpAny _ _ (Builtin.Tuple.tupleItemsOf (.ref t)>>=_) _ _ s
 refine wpAny_bind (tupleItemsOf_ ht ?_)
 refine wpAny_bind (wpAny_typeOf hTs ?_)
 rw[if_pos (by decide)]
 refine wpAny_bind (kS hs pl pu ?_)
 have hno:¬((((sIx items.size 0 lo:Nat):Int)==0&&(1:Int)==1&&(sIx items.size items.size hi-sIx items.size 0 lo)==items.size)=true):=by
  intro q
  rw[Bool.and_eq_true,Bool.and_eq_true] at q
  have q1:((sIx items.size 0 lo:Nat):Int)=0:=eq_of_beq q.1.1
  have q2:sIx items.size items.size hi-sIx items.size 0 lo=items.size:=eq_of_beq q.2
  exact hw ⟨by omega,by omega⟩
 show wpAny _ _ (if(((sIx items.size 0 lo:Nat):Int)==0&&(1:Int)==1&&(sIx items.size items.size hi-sIx items.size 0 lo)==items.size)=true then _ else _) _ _ s
 rw[if_neg hno,uF]
 first
  |exact wpAny_bind (m:=Builtin.Tuple.tupleExact _) (wpAny_newObj_type (wpAny_pure ⟨_,rfl,wpAny_pure h⟩) htake)
  |exact wpAny_bind (m:=Builtin.Tuple.tupleExact _) (wpAny_newObj_type (wpAny_bind (wpAny_pure (wpAny_pure ⟨_,rfl,wpAny_pure h⟩))) htake)
  |exact wpAny_bind (wpAny_bind (m:=Builtin.Tuple.tupleExact _) (wpAny_newObj_type (wpAny_pure (wpAny_pure ⟨_,rfl,wpAny_pure h⟩)) htake))
  |exact wpAny_bind (wpAny_bind (m:=Builtin.Tuple.tupleExact _) (wpAny_newObj_type (wpAny_pure ⟨_,rfl,wpAny_pure h⟩) htake))
end
end HT
namespace L2
open PySem PySem.Spec PyProof.Rows
abbrev TO:=St→Hp→(Option Int→Hp→Prop)→Prop
def PO(X:Cx)(e:Option Expr)(t:TO):Prop:=
 ∀(pins:List (Addr×Obj)) (s:Shared) (σ:St) (H:Hp) (Q:Option Int→Hp→Prop),Inv X pins σ H s→t σ H Q→
  wpAny (model X.prog X.w) X.A (evalPart e X.env) (fun u s'=>∃o H',Inv X pins σ H' s'∧IsPart u o∧Q o H') X.xe s
def so:TO:=fun _ H Q=>Q none H
def xS(t:TE):TO:=fun σ H Q=>t σ H fun x H1=>∃i,x= .int i∧Q (some i) H1
theorem jZ{ns:List Int}:∀{us:List Value},Vals (ns.map V.int) us→IntsAre us ns:=by
 induction ns with
 |nil=>intro us r;rw[List.map_nil] at r;cases r;exact .nil
 |cons n ns ih=>
  intro us r
  rw[List.map_cons] at r
  cases r with
  |cons r1 r2=>
   obtain⟨t,e⟩:=r1
   subst e
   exact .cons n t (ih r2)
section
variable{X:Cx}{e:Expr}{te:TE}{lo hi:Option Expr}{tl th:TO}{pos p2:Pos}
theorem sr:PO X none so:=by
 intro pins s σ H Q I h
 rw[evalPart_none]
 exact wpAny_pure ⟨none,H,I, .none,h⟩
theorem fB(h:PE X e te):PO X (some e) (xS te):=by
 intro pins s σ H Q I hw
 rw[evalPart_some]
 refine thn (h pins s σ H _ I hw) fun u s1 ⟨x,H1,I1,r1,q1⟩=> ?_
 obtain⟨i,rfl,q⟩:=q1
 obtain⟨t,rfl⟩:=r1
 exact⟨some i,H1,I1, .int i t,q⟩
def SlR(X:Cx)(r:V→Option Int→Option Int→Hp→VK→Prop):Prop:=
 ∀(pins:List (Addr×Obj)) (s:Shared) (σ:St) (H:Hp) (x:V) (v vl vu:Value) (lo hi:Option Int) (sl:Addr) (Q:VK),Inv X pins σ H s→RelV x v→s.heap.IsSliceOf sl vl vu .none→IsPart vl lo→IsPart vu hi→r x lo hi H Q→
  ∃T id,typeLookup (.type T) "__getitem__"=pure (some (.builtin id))∧s.TypeIs v T∧wpAny (model X.prog X.w) X.A (getItem v (.ref sl)) (EP X pins σ Q) X.xe s
theorem SlR.or{r r':V→Option Int→Option Int→Hp→VK→Prop}(h:SlR X r)(h':SlR X r'):SlR X (fun x lo hi H Q=>r x lo hi H Q∨r' x lo hi H Q):=by
 intro pins s σ H x v vl vu lo hi sl Q I rx hs pl pu q
 rcases q with q|q
 · exact h pins s σ H x v vl vu lo hi sl Q I rx hs pl pu q
 · exact h' pins s σ H x v vl vu lo hi sl Q I rx hs pl pu q
def tSl(r:V→Option Int→Option Int→Hp→VK→Prop)(te:TE)(tl th:TO):TE:=fun σ H Q=>te σ H fun x H1=>tl σ H1 fun l H2=>th σ H2 fun u H3=>r x l u H3 Q
theorem ir{r:V→Option Int→Option Int→Hp→VK→Prop}(hr:SlR X r)(he:PE X e te)(hl:PO X lo tl)(hu:PO X hi th):PE X (.Subscript e (.Slice lo hi none p2) pos) (tSl r te tl th):=by
 intro pins s σ H Q I h
 refine Subscript_ (thn (he pins s σ H _ I h) fun v s1 ⟨x,H1,I1,r1,q1⟩=> ?_)
 refine wpAny_Slice (thn (hl pins s1 σ H1 _ I1 q1) fun vl s2 ⟨l,H2,I2,pl,q2⟩=>thn (hu pins s2 σ H2 _ I2 q2) fun vu s3 ⟨u,H3,I3,pu,q3⟩=> ?_)
 rw[evalPart_none]
 refine wpAny_pure ?_
 have I4:Inv X pins σ H3 {s3 with heap:=s3.heap.push {cls:= .type "slice",data:= .fields #[vl,vu, .none]}}:=I3.kept (t':=s3.toks) fun b ob q=>Heap.get?_push_of_some _ q
 obtain⟨T,id,hT,ht,hg⟩:=hr pins {s3 with heap:=s3.heap.push {cls:= .type "slice",data:= .fields #[vl,vu, .none]}} σ H3 x v vl vu l u s3.heap.objs.size Q I4 r1 (Heap.IsSliceOf.new ..) pl pu q3
 show wpAny (model X.prog X.w) X.A (subscriptTail e (.Slice lo hi none p2) v (.ref s3.heap.objs.size)) (EP X pins σ Q) X.xe {s3 with heap:=s3.heap.push {cls:= .type "slice",data:= .fields #[vl,vu, .none]}}
 exact tail_any (ops:=[.ref s3.heap.objs.size,v]) ht hT hg (by with_unfolding_all rfl)
def qw(xs:List V)(lo hi:Option Int):List V:=(xs.drop (HT.sIx xs.length 0 lo)).take (HT.sIx xs.length xs.length hi-HT.sIx xs.length 0 lo)
theorem lN(xs:List V)(lo hi:Option Int):(qw xs lo hi).length≤xs.length:=by
 unfold qw
 rw[List.length_take,List.length_drop]
 omega
def zZ(K:W.Frag):V→Option Int→Option Int→Hp→VK→Prop:=fun x lo hi H Q=>∃a xs,x= .ref a∧SqT K H a xs∧
 ¬(HT.sIx xs.length 0 lo=0∧HT.sIx xs.length xs.length hi=xs.length)∧∀p,H p=none→Q (.ref p) (upd H p (.tup (qw xs lo hi)))
theorem yJ:SlR X (zZ X.K):=by
 intro pins s σ H x v vl vu lo hi sl Q I rx hs pl pu h
 obtain⟨a,xs,rfl,hx,hw,q⟩:=h
 cases rx
 obtain⟨its,r,ht,hz⟩:=I.tuple hx
 have hlen:its.toArray.size=xs.length:=by rw[List.size_toArray];exact r.length.symm
 refine⟨"tuple",_,PyProof.Rows.slot_tuple_getitem.lookup,ht.typeIs, ?_⟩
 refine HT.getItem_tuple_cut ht hs pl pu (by rw[hlen];exact hw) ?_ (by rw[hlen];exact hz)
 rw[hlen]
 refine⟨.ref s.heap.objs.size,_,I.laid (t':=s.toks) (o:= .tup (qw xs lo hi)) (fun b ob q=>Heap.get?_push_of_some _ q) (Nat.le_refl _) ?_,rfl,q _ (I.hok.fresh (Nat.le_refl _))⟩
 exact⟨Nat.le_trans (lN xs lo hi) hz,_,(r.drop (HT.sIx xs.length 0 lo)).take (HT.sIx xs.length xs.length hi-HT.sIx xs.length 0 lo),IsTup.new _ _⟩
def xT(K:W.Frag):R2:=fun x y H Q=>∃a b xs ys,x= .ref a∧y= .ref b∧SqT K H a xs∧SqT K H b ys∧xs≠[]∧xs.length+ys.length≤sizeLine∧
 (ys=[]→Q (.ref a) H)∧(ys≠[]→∀p,H p=none→Q (.ref p) (upd H p (.tup (xs++ys))))
theorem Vals.nil_iff{xs:List V}{us:List Value}(r:Vals xs us):us=[]↔xs=[]:=by
 cases r with
 |nil=>simp
 |cons _ _=>simp
theorem wx:OpR X (binaryOp .Add) (xT X.K):=by
 intro pins s σ H x y v u Q I rx ry h
 obtain⟨a,b,xs,ys,rfl,rfl,ha,hb,hx,hz,q1,q2⟩:=h
 cases rx
 cases ry
 obtain⟨its,r1,p1,_⟩:=I.tuple ha
 obtain⟨its2,r2,p2,_⟩:=I.tuple hb
 refine HT.cat_tup p1 p2 (fun z=>hx (r1.nil_iff.mp z)) (fun z=>⟨.ref a,H,I,rfl,q1 (r2.nil_iff.mp z)⟩) (fun z=> ?_) (by rw[←r1.length,←r2.length];exact hz)
 refine⟨.ref s.heap.objs.size,_,I.laid (t':=s.toks) (o:= .tup (xs++ys)) (fun b ob q=>Heap.get?_push_of_some _ q) (Nat.le_refl _) ?_,rfl,q2 (fun w=>z (r2.nil_iff.mpr w)) _ (I.hok.fresh (Nat.le_refl _))⟩
 exact⟨by rw[List.length_append];exact hz,_,r1.append r2,IsTup.new _ _⟩
end
def ixN(n:Nat)(i:Int):Option Nat:=if 0≤i then(if i<n then some i.toNat else none) else if-(n:Int)≤i then some (i+n).toNat else none
def atI{α:Type}(xs:List α)(i:Int):Option α:=(ixN xs.length i).bind fun j=>xs[j]?
theorem wy{n:Nat}{i:Int}{j:Nat}(h:ixN n i=some j):seqIndex? i n=some j∧j<n∧ -(n:Int)≤i∧i<n:=by
 unfold ixN at h
 by_cases h0:0≤i
 · rw[if_pos h0] at h
   by_cases h1:i<n
   · rw[if_pos h1] at h
     have e:i.toNat=j:=Option.some.inj h
     exact⟨by rw[seqIndex_of h0 h1,e],by omega,by omega,h1⟩
   · rw[if_neg h1] at h;cases h
 · rw[if_neg h0] at h
   by_cases h1: -(n:Int)≤i
   · rw[if_pos h1] at h
     have e:(i+n).toNat=j:=Option.some.inj h
     exact⟨by rw[seqIndex_neg (by omega) h1,e],by omega,h1,by omega⟩
   · rw[if_neg h1] at h;cases h
theorem pc{α:Type}{xs:List α}{i:Int}{v:α}(h:atI xs i=some v):∃j,seqIndex? i xs.length=some j∧xs[j]? =some v∧j<xs.length∧ -(xs.length:Int)≤i∧i<xs.length:=by
 unfold atI at h
 cases e:ixN xs.length i with
 |none=>rw[e] at h;cases h
 |some j=>
  rw[e] at h
  obtain⟨h1,h2,h3,h4⟩:=wy e
  exact⟨j,h1,h,h2,h3,h4⟩
theorem qx{α:Type}(xs:List α)(v:α):atI (xs++[v]) (-1)=some v:=by
 have hl:(xs++[v]).length=xs.length+1:=by simp
 have e:ixN (xs++[v]).length (-1)=some xs.length:=by
  unfold ixN
  rw[hl,if_neg (by decide),if_pos (by omega)]
  congr 1
  omega
 unfold atI
 rw[e]
 show (xs++[v])[xs.length]? =some v
 simp
def wz(b:Expr):Prop:=∀o i,subscripted b false o i=operate [o,i] (getItem o i)
def IxR(X:Cx)(r:R2):Prop:=
 ∀(value slice:Expr) (pins:List (Addr×Obj)) (s:Shared) (σ:St) (H:Hp) (x y:V) (v u:Value) (Q:VK),Inv X pins σ H s→RelV x v→RelV y u→r x y H Q→
  subscripted slice false v u=operate [v,u] (getItem v u)→wpAny (model X.prog X.w) X.A (subscriptTail value slice v u) (EP X pins σ Q) X.xe s
def MtR(X:Cx)(id:String)(r:V→List V→Hp→VK→Prop):Prop:=
 ∀(pins:List (Addr×Obj)) (s:Shared) (σ:St) (H:Hp) (x:V) (xs:List V) (v:Value) (us:List Value) (Q:VK),Inv X pins σ H s→RelV x v→Vals xs us→r x xs H Q→
  wpAny (model X.prog X.w) X.A (call (.builtin id) (v::us)) (EP X pins σ Q) X.xe s
section
variable{X:Cx}{a b:Expr}{ta tb:TE}{pos:Pos}
theorem IxR.or{r r':R2}(h:IxR X r)(h':IxR X r'):IxR X (fun x y H Q=>r x y H Q∨r' x y H Q):=by
 intro value slice pins s σ H x y v u Q I rx ry q hs
 rcases q with q|q
 · exact h value slice pins s σ H x y v u Q I rx ry q hs
 · exact h' value slice pins s σ H x y v u Q I rx ry q hs
theorem MtR.or{id:String}{r r':V→List V→Hp→VK→Prop}(h:MtR X id r)(h':MtR X id r'):MtR X id (fun x xs H Q=>r x xs H Q∨r' x xs H Q):=by
 intro pins s σ H x xs v us Q I rx rs q
 rcases q with q|q
 · exact h pins s σ H x xs v us Q I rx rs q
 · exact h' pins s σ H x xs v us Q I rx rs q
theorem cE{r:R2}(hr:IxR X r)(ha:PE X a ta)(hb:PE X b tb)(hs:wz b):PE X (.Subscript a b pos) (tOp r ta tb):=by
 intro pins s σ H Q I h
 exact Subscript_ (yy ha hb I h fun v u s2 x y H2 I2 rx ry q=>hr a b pins s2 σ H2 x y v u Q I2 rx ry q (hs _ _))
def z9(K:W.Frag):R2:=fun x y H Q=>∃p xs i v,x= .ref p∧y= .int i∧SqL K H p xs∧atI xs i=some v∧Q v H
def Aa(K:W.Frag):R2:=fun x y H Q=>∃p xs i v,x= .ref p∧y= .int i∧SqT K H p xs∧atI xs i=some v∧Q v H
def Ab:R2:=fun x y H Q=>∃z i c,x= .str z∧y= .int i∧z.length≤sizeLine∧atI z.cps.toList i=some c∧Q (.str ⟨#[c]⟩) H
theorem wA:IxR X (z9 X.K):=by
 intro value slice pins s σ H x y v u Q I rx ry h hs
 obtain⟨p,xs,i,z,rfl,rfl,hq,he,q⟩:=h
 cases rx
 obtain⟨t,rfl⟩:=ry
 obtain⟨its,r,pl,hz⟩:=I.list hq
 obtain⟨j,h1,h2,h3,h4,h5⟩:=pc he
 obtain⟨w,ew,rw'⟩:=r.get h2
 have hl:=r.length
 have hn:=kQ
 have fin:EP X pins σ Q w s:=⟨z,H,I,rw',q⟩
 by_cases h0:0≤i
 · have hj:i.toNat=j:=by
    rw[seqIndex_of h0 h5] at h1
    exact Option.some.inj h1
   exact item_listR pl.isList h0 (by omega) (by rw[hj];simpa using ew) fin hs
 · have hj:(i+(its.toArray.size:Int)).toNat=j:=by
    rw[seqIndex_neg (by omega) h4] at h1
    rw[List.size_toArray,←hl]
    exact Option.some.inj h1
   exact subscriptTail_builtinR (x:=w) pl.isList.typeIs slot_list_getitem.lookup
    (wpAny_getItem_list_neg (Q:=fun r s'=>r=w∧EP X pins σ Q r s') pl.isList (by omega) (by rw[List.size_toArray]<;>omega) (by omega) (by rw[hj];simpa using ew) ⟨rfl,fin⟩) hs
theorem yK:IxR X (Aa X.K):=by
 intro value slice pins s σ H x y v u Q I rx ry h hs
 obtain⟨p,xs,i,z,rfl,rfl,hq,he,q⟩:=h
 cases rx
 obtain⟨t,rfl⟩:=ry
 obtain⟨its,r,pl,hz⟩:=I.tuple hq
 obtain⟨j,h1,h2,h3,h4,h5⟩:=pc he
 obtain⟨w,ew,rw'⟩:=r.get h2
 have hl:=r.length
 have hn:=kQ
 have fin:EP X pins σ Q w s:=⟨z,H,I,rw',q⟩
 exact subscriptTail_builtinR (x:=w) pl.typeIs slot_tuple_getitem.lookup
  (getItem_tuple (j:=j) (Q:=fun r s'=>r=w∧EP X pins σ Q r s') pl (by omega) (by omega) (by rw[List.size_toArray,←hl];exact h1) (by simpa using ew) ⟨rfl,fin⟩) hs
theorem yL:IxR X Ab:=by
 intro value slice pins s σ H x y v u Q I rx ry h hs
 obtain⟨z,i,c,rfl,rfl,hz,he,q⟩:=h
 obtain⟨t,rfl⟩:=rx
 obtain⟨t',rfl⟩:=ry
 obtain⟨j,h1,h2,h3,h4,h5⟩:=pc he
 have hl:z.cps.toList.length=z.length:=by simp[Str.length]
 rw[hl] at h1 h4 h5
 have hn:=kQ
 exact tail_any (typeIs_str s z t) slot_str_getitem.lookup (getItem_str (c:=c) (by
  have e1:decide (i< -(2^63:Int))=false:=decide_eq_false (by omega)
  have e2:decide (i≥2^63)=false:=decide_eq_false (by omega)
  rw[e1,e2,Bool.or_false]) (by rw[h1];simpa using h2) ⟨.str ⟨#[c]⟩,H,I.tok _,⟨_,rfl⟩,q⟩) hs
def rIx(K:W.Frag):R2:=fun x y H Q=>z9 K x y H Q∨Aa K x y H Q∨Ab x y H Q
theorem cB:IxR X (rIx X.K):=wA.or (yK.or yL)
theorem Inv.lst{pins:List (Addr×Obj)}{σ:St}{H:Hp}{s:Shared}{p:Addr}{xs:List V}(I:Inv X pins σ H s)(h:H p=some (.lst xs)):
 ∃(its:List Value) (n:Nat),Vals xs its∧s.heap.get? p=some {cls:= .type "list",data:= .seq its.toArray n}∧xs.length≤sizeLine:=by
 obtain⟨z,its,n,r,e⟩:=I.hok p _ h
 exact⟨its,n,r,e,z⟩
theorem pf(lo hi:Option Int)(n:Nat):(sliceBounds lo hi none n).1=((HT.sIx n 0 lo:Nat):Int)∧(sliceBounds lo hi none n).2.1=((HT.sIx n n hi:Nat):Int)∧(sliceBounds lo hi none n).2.2=1:=by
 refine⟨?_, ?_,rfl⟩
 · cases lo with
   |none=>simp[sliceBounds,HT.sIx]
   |some i=>
    simp only[sliceBounds,HT.sIx,Option.getD_none,show (1:Int)>0 by decide,if_true]
    by_cases h:i<0
    · simp only[h,if_true]<;>omega
    · simp only[h,if_false]<;>omega
 · cases hi with
   |none=>simp[sliceBounds,HT.sIx]
   |some i=>
    simp only[sliceBounds,HT.sIx,Option.getD_none,show (1:Int)>0 by decide,if_true]
    by_cases h:i<0
    · simp only[h,if_true]<;>omega
    · simp only[h,if_false]<;>omega
theorem nI(its:List Value)(lo hi:Option Int):slicePick its.toArray lo hi none=((its.drop (HT.sIx its.length 0 lo)).take (HT.sIx its.length its.length hi-HT.sIx its.length 0 lo)).toArray:=by
 obtain⟨h1,h2,h3⟩:=pf lo hi its.toArray.size
 unfold slicePick
 rw[h1,h2,h3]
 simp only[sliceRange_one,pick_run,List.size_toArray]<;>rfl
def Ac(K:W.Frag):V→Option Int→Option Int→Hp→VK→Prop:=fun x lo hi H Q=>∃a xs,x= .ref a∧SqL K H a xs∧∀p,H p=none→Q (.ref p) (upd H p (.lst (qw xs lo hi)))
theorem wB:SlR X (Ac X.K):=by
 intro pins s σ H x v vl vu lo hi sl Q I rx hs pl pu h
 obtain⟨a,xs,rfl,hx,q⟩:=h
 cases rx
 obtain⟨its,r,ht,hz⟩:=I.list hx
 have hlen:=r.length
 refine⟨"list",_,slot_list_getitem.lookup,ht.isList.typeIs, ?_⟩
 refine wpAny_getItem_list_slice ht.isList hs pl pu .none (by simp) ?_ (by rw[List.size_toArray]<;>omega)
 rw[nI,←hlen]
 refine⟨.ref s.heap.objs.size,_,I.laid (t':=s.toks) (o:= .lst (qw xs lo hi)) (fun b ob q=>Heap.get?_push_of_some _ q) (Nat.le_refl _) ?_,rfl,q _ (I.hok.fresh (Nat.le_refl _))⟩
 exact⟨Nat.le_trans (lN xs lo hi) hz,_,0,(r.drop (HT.sIx xs.length 0 lo)).take (HT.sIx xs.length xs.length hi-HT.sIx xs.length 0 lo),Heap.get?_push_size _ rfl⟩
def flatV:V→Bool
 | .non=>true
 | .bl _=>true
 | .int _=>true
 | .str _=>true
 |_=>false
def eqV:V→V→Bool
 | .non, .non=>true
 | .bl a, .bl b=>a==b
 | .bl a, .int b=>(if a then 1 else 0)==b
 | .int a, .bl b=>a==(if b then 1 else 0)
 | .int a, .int b=>a==b
 | .str a, .str b=>a==b
 |_,_=>false
theorem yM{A:Around}{s:Shared}{y x:V}{u v:Value}(ry:RelV y u)(rx:RelV x v)(fy:flatV y=true)(fx:flatV x=true):SeqAt.EqAt A s u v (eqV y x):=by
 cases y with
 |non=>
  cases ry
  cases x with
  |non=>cases rx;exact SeqAt.EqAt.same _
  |bl b=>cases rx;exact SeqAt.EqAt.none_bool b
  |int b=>obtain⟨t,rfl⟩:=rx;exact SeqAt.EqAt.none_int b t
  |str b=>obtain⟨t,rfl⟩:=rx;exact SeqAt.EqAt.none_str b t
  |_=>exact absurd (show false=true from fx) Bool.false_ne_true
 |bl a=>
  cases ry
  cases x with
  |non=>cases rx;exact SeqAt.EqAt.bool_none a
  |bl b=>cases rx;exact SeqAt.EqAt.bool_bool a b
  |int b=>obtain⟨t,rfl⟩:=rx;exact SeqAt.EqAt.bool_int a b t
  |str b=>obtain⟨t,rfl⟩:=rx;exact SeqAt.EqAt.bool_str a b t
  |_=>exact absurd (show false=true from fx) Bool.false_ne_true
 |int a=>
  obtain⟨t',rfl⟩:=ry
  cases x with
  |non=>cases rx;exact SeqAt.EqAt.int_none a t'
  |bl b=>cases rx;exact SeqAt.EqAt.int_bool a t' b
  |int b=>obtain⟨t,rfl⟩:=rx;exact SeqAt.EqAt.int_int a t' b t
  |str b=>obtain⟨t,rfl⟩:=rx;exact SeqAt.EqAt.int_str a t' b t
  |_=>exact absurd (show false=true from fx) Bool.false_ne_true
 |str a=>
  obtain⟨t',rfl⟩:=ry
  cases x with
  |non=>cases rx;exact SeqAt.EqAt.str_none a t'
  |bl b=>cases rx;exact SeqAt.EqAt.str_bool a t' b
  |int b=>obtain⟨t,rfl⟩:=rx;exact SeqAt.EqAt.str_int a t' b t
  |str b=>obtain⟨t,rfl⟩:=rx;exact SeqAt.EqAt.str_str a t' b t
  |_=>exact absurd (show false=true from fx) Bool.false_ne_true
 |_=>exact absurd (show false=true from fy) Bool.false_ne_true
theorem ph:CallR X (.builtin "len") (fun xs H Q=>∃p ys,xs=[.ref p]∧(SqL X.K H p ys∨SqT X.K H p ys)∧Q (.int ys.length) H):=by
 intro pins s σ H xs us Q I r h
 obtain⟨p,ys,rfl,hq,q⟩:=h
 obtain⟨u,rfl,rx⟩:=uA r
 cases rx
 have hn:=kQ
 rcases hq with hq|hq
 · obtain⟨its,r',pl,hz⟩:=I.list hq
   have hlen:=r'.length
   exact Calls.call_len_list pl.isList (by simp only[List.size_toArray]<;>omega) ⟨.int ys.length,H,I.tok _,⟨s.toks+1,by rw[List.size_toArray,hlen]⟩,q⟩
 · obtain⟨its,r',pl,hz⟩:=I.tuple hq
   have hlen:=r'.length
   exact len_tuple pl (by simp only[List.size_toArray]<;>omega) ⟨.int ys.length,H,I.tok _,⟨s.toks+1,by rw[List.size_toArray,hlen]⟩,q⟩
theorem pi:CallR X (.builtin "len") (fun xs H Q=>∃z,xs=[.str z]∧z.length≤sizeLine∧Q (.int z.length) H):=by
 intro pins s σ H xs us Q I r h
 obtain⟨z,rfl,hz,q⟩:=h
 obtain⟨u,rfl,t,rfl⟩:=uA r
 have hn:=kQ
 exact len_str (by omega) ⟨.int z.length,H,I.tok _,⟨_,rfl⟩,q⟩
theorem CallR.or{f:Value}{r r':List V→Hp→VK→Prop}(h:CallR X f r)(h':CallR X f r'):CallR X f (fun xs H Q=>r xs H Q∨r' xs H Q):=by
 intro pins s σ H xs us Q I rs q
 rcases q with q|q
 · exact h pins s σ H xs us Q I rs q
 · exact h' pins s σ H xs us Q I rs q
theorem hW:CallR X (.type "list") (fun xs H Q=>∃p ys,xs=[.ref p]∧(SqL X.K H p ys∨SqT X.K H p ys)∧∀l,H l=none→Q (.ref l) (upd H l (.lst ys))):=by
 intro pins s σ H xs us Q I r h
 obtain⟨p,ys,rfl,hq,q⟩:=h
 obtain⟨u,rfl,rx⟩:=uA r
 cases rx
 have fin:∀(its:List Value),Vals ys its→ys.length≤sizeLine→∀(h':Heap) (c':Nat),(∀b o',s.heap.get? b=some o'→h'.get? b=some o')→
  h'.get? s.heap.objs.size=some {cls:= .type "list",dict:=none,data:= .seq its.toArray c',slots:= #[]}→EP X pins σ Q (.ref s.heap.objs.size) {s with heap:=h'}:=fun its r' hz h' c' kp e=>
  ⟨.ref s.heap.objs.size,_,I.laid (t':=s.toks) kp (Nat.le_refl _) (show ObjOk X.prog X.w _ h' _ (.lst ys) from⟨hz,its,c',r',e⟩),rfl,q _ (I.hok.fresh (Nat.le_refl _))⟩
 rcases hq with hq|hq
 · obtain⟨its,r',pl,hz⟩:=I.list hq
   have hlen:=r'.length
   obtain⟨o,ho,hc,n,hd⟩:=pl.isList
   exact call_list_seq p (.inl rfl) ho hc hd (fun h' c' kp e=>fin its r' hz h' c' kp e) (by simp only[List.size_toArray]<;>omega)
 · obtain⟨its,r',pl,hz⟩:=I.tuple hq
   have hlen:=r'.length
   obtain⟨o,ho,hc,n,hd⟩:=pl
   exact call_list_seq p (.inr rfl) ho hc hd (fun h' c' kp e=>fin its r' hz h' c' kp e) (by simp only[List.size_toArray]<;>omega)
def tyV(K:W.Frag)(T:String)(x:V)(H:Hp):Prop:=match x with
 | .str _=>T="str"
 | .int _=>T="int"
 | .ref p=>(T="list"∧∃xs,SqL K H p xs)∨(T="tuple"∧∃o,K.lookup p=some o∧o.cls= .type "tuple"∧o.dict=none)∨
  (T="dict"∧((∃kvs,H p=some (.dK kvs))∨∃kvs,H p=some (.dT kvs)))∨(T="set"∧∃S n,H p=some (.set S n))
 |_=>False
theorem uG{pins:List (Addr×Obj)}{σ:St}{H:Hp}{s:Shared}{T:String}{x:V}{v:Value}(I:Inv X pins σ H s)(r:RelV x v)(ty:tyV X.K T x H):
 s.TypeIs v T∧∀a,v= .ref a→∃ob,s.heap.get? a=some ob∧ob.dict=none:=by
 cases x with
 |str z=>
  obtain⟨t,rfl⟩:=r
  cases (show T="str" from ty)
  exact⟨typeIs_str s z t,fun _ e=>nomatch e⟩
 |int i=>
  obtain⟨t,rfl⟩:=r
  cases (show T="int" from ty)
  exact⟨typeIs_int s i t,fun _ e=>nomatch e⟩
 |ref p=>
  cases r
  rcases ty with⟨rfl,xs,hq⟩|⟨rfl,o,hk,hc,hd⟩|⟨rfl,hk⟩|⟨rfl,S,n,hk⟩
  · obtain⟨its,_,pl,_⟩:=I.list hq
    refine⟨pl.isList.typeIs,fun a e=> ?_⟩
    cases e
    obtain⟨o,n,e,c,hd,_⟩:=pl
    exact⟨o,e,hd⟩
  · refine⟨⟨o,I.kIn p o hk,hc⟩,fun a e=> ?_⟩
    cases e
    exact⟨o,I.kIn _ o hk,hd⟩
  · have z:∃o,s.heap.get? p=some o∧o.ExactDict:=by
     rcases hk with⟨kvs,hk⟩|⟨kvs,hk⟩
     · obtain⟨_,_,_,_,o,_,_,e,ex,_⟩:=I.hok p _ hk
       exact⟨o,e,ex⟩
     · obtain⟨_,_,_,_,o,_,_,e,ex,_⟩:=I.hok p _ hk
       exact⟨o,e,ex⟩
    obtain⟨o,e,ex⟩:=z
    refine⟨⟨o,e,ex.1⟩,fun a e2=> ?_⟩
    cases e2
    exact⟨o,e,ex.2.1⟩
  · obtain⟨o,_,_,_,e,ex,_⟩:=I.hok p _ hk
    refine⟨⟨o,e,ex.1⟩,fun a e2=> ?_⟩
    cases e2
    exact⟨o,e,ex.2.1⟩
 |_=>exact False.elim ty
def uH(K:W.Frag)(T:String)(r:V→List V→Hp→VK→Prop)(to:TE):TE:=fun σ H Q=>to σ H fun x H1=>tyV K T x H1∧r x [] H1 Q
def tBM(K:W.Frag)(T:String)(r:V→List V→Hp→VK→Prop)(to:TE)(t:TA):TE:=fun σ H Q=>to σ H fun x H1=>tyV K T x H1∧t σ H1 fun xs H2=>r x xs H2 Q
variable{o e:Expr}{es:List Expr}{to:TE}{t:TA}{name:Str}{apos cpos:Pos}{T id:String}{r:V→List V→Hp→VK→Prop}
theorem rE(pa:PlainAttrs T)(slot:Slot T name id)(hty:typeOf (.builtin id)=pure (.type "method_descriptor"))(hm:MtR X id r)(ho:PE X o to)
 (hbase:attributeBase o name X.env (eval o X.env)=eval o X.env:=by rfl)(hline:(apos.endLine==cpos.line)=true:=by rfl):PE X (.Call (.Attribute o name apos) [] [] cpos) (uH X.K T r to):=by
 intro pins s σ H Q I h
 refine wpAny_Call_method0_late hbase hline (thn (ho pins s σ H _ I h) fun v s1 ⟨x,H1,I1,r1,ty,q1⟩=> ?_)
 obtain⟨h1,h2⟩:=uG I1 r1 ty
 exact⟨T,id,pa,slot,hty,h1,h2,Calls.callWith_builtin rfl (PySem.evalArgs_none (hm pins s1 σ H1 x [] v [] Q I1 r1 .nil q1))⟩
theorem i5(pa:PlainAttrs T)(slot:Slot T name id)(hty:typeOf (.builtin id)=pure (.type "method_descriptor"))(hm:MtR X id r)(ho:PE X o to)(ha:PA X (e::es) t)
 (hbase:attributeBase o name X.env (eval o X.env)=eval o X.env:=by rfl)
 (hfew:((backTo cpos (starEach (e::es) X.env)).all (fun x=> !x.1)&&(backToKw cpos (keywordEach [] X.env)).all (fun x=>x.1.isSome)
  &&decide ((e::es).length+([]:List Keyword).length+(if([]:List Keyword).isEmpty then 0 else 1)<30))=true:=by rfl)
 (hline:(apos.endLine==cpos.line)=true:=by rfl)(hs:starEach (e::es) X.env=(false,eval e X.env)::starEach es X.env:=by rfl)(hplain:(backTo cpos (starEach es X.env)).any (·.1)=false:=by rfl):
 PE X (.Call (.Attribute o name apos) (e::es) [] cpos) (tBM X.K T r to t):=by
 intro pins s σ H Q I h
 refine wpAny_Call_method_late hbase hfew hline rfl (thn (ho pins s σ H _ I h) fun v s1 ⟨x,H1,I1,r1,ty,q1⟩=> ?_)
 obtain⟨h1,h2⟩:=uG I1 r1 ty
 refine⟨T,id,pa,slot,hty,h1,h2, ?_⟩
 have hA:=ha cpos pins s1 σ H1 _ I1 q1
 rw[hs] at hA ⊢
 refine Calls.callWith_builtin (by show (false||(backTo cpos (starEach es X.env)).any (·.1))=false;rw[hplain]<;>rfl) (Calls.evalArgs_plain ?_)
 exact thn hA fun us s2 ⟨vs,H2,I2,r2,q2⟩=>hm pins s2 σ H2 x vs v us Q I2 r1 r2 q2
end
def MtM(X:Cx)(id:String)(r:V→List V→Hp→VK→Prop):Prop:=
 ∀(pins:List (Addr×Obj)) (s:Shared) (σ:St) (H:Hp) (x:V) (xs:List V) (v:Value) (us:List Value) (Q:VK),Inv X pins σ H s→RelV x v→Vals xs us→r x xs H Q→
  wpAny (model X.prog X.w) X.A (call (.builtin id) (v::us)) (EP X pins σ Q) X.xe s
theorem Vals.one:∀{x:V} {us:List Value},Vals [x] us→∃u,us=[u]∧RelV x u
 |_,_, .cons r .nil=>⟨_,rfl,r⟩
theorem Vals.two:∀{x y:V} {us:List Value},Vals [x,y] us→∃u v,us=[u,v]∧RelV x u∧RelV y v
 |_,_,_, .cons r (.cons q .nil)=>⟨_,_,rfl,r,q⟩
theorem Vals.zero:∀{us:List Value},Vals [] us→us=[]
 |_, .nil=>rfl
theorem Vals.reverse{xs:List V}{us:List Value}(h:Vals xs us):Vals xs.reverse us.reverse:=by
 induction h with
 |nil=>exact .nil
 |cons r t ih=>rw[List.reverse_cons,List.reverse_cons];exact Vals.append ih (.cons r .nil)
theorem Vals.rep{xs:List V}{us:List Value}(h:Vals xs us):∀k:Nat,Vals (List.replicate k xs).flatten (List.replicate k us).flatten
 |0=> .nil
 |k+1=>by
  rw[List.replicate_succ,List.replicate_succ,List.flatten_cons,List.flatten_cons]
  exact Vals.append h (Vals.rep h k)
theorem oh(its:List Value):∀(k:Nat) (acc:List Value),
 List.foldl (fun x1 x2=>x1++x2) acc.toArray (List.replicate k its.toArray)=(acc++(List.replicate k its).flatten).toArray
 |0,acc=>by simp
 |k+1,acc=>by
  have e:acc.toArray++its.toArray=(acc++its).toArray:=by simp
  have e2:(acc++its)++(List.replicate k its).flatten=acc++(List.replicate (k+1) its).flatten:=by
   rw[List.replicate_succ,List.flatten_cons,List.append_assoc]
  rw[←e2,←oh its k (acc++its),←e,List.replicate_succ,List.foldl_cons]
section
variable{X:Cx}{pins:List (Addr×Obj)}{σ:St}{H:Hp}{s:Shared}{l b:Addr}{xs ys zs:List V}
theorem Inv.lset{its its':List Value}{n:Nat}{f:Array Value→Array Value}{t':Nat}(I:Inv X pins σ H s)(hH:H l=some (.lst xs))
 (e:s.heap.get? l=some {cls:= .type "list",data:= .seq its.toArray n})(hf:f its.toArray=its'.toArray)(hv:Vals ys its')(hz:ys.length≤sizeLine):
 Inv X pins σ (upd H l (.lst ys)) {s with heap:=s.heap.update l (Obj.mapSeq f),toks:=t'}:=by
 have q:=PySem.IsL.update e f
 rw[hf] at q
 refine I.write (x:=l) (e:=l) (by rw[hH];exact trivial) (.inl rfl) (fun b' u hb hu=>(Heap.get?_update_other s.heap (Obj.mapSeq f) (Ne.symm hb)).trans hu) ⟨_,q⟩ ?_
 exact⟨hz,its',_,hv,q⟩
theorem Inv.lnew{its:List Value}{t':Nat}(I:Inv X pins σ H s)(hv:Vals ys its)(hz:ys.length≤sizeLine):
 Inv X pins σ (upd H s.heap.objs.size (.lst ys)) {s with heap:=s.heap.push {cls:= .type "list",data:= .seq its.toArray},toks:=t'}:=
 I.laid (fun _ _ q=>Heap.get?_push_of_some _ q) (Nat.le_refl _) ⟨hz,its,0,hv,Heap.get?_push_size _ rfl⟩
theorem Inv.fresh(I:Inv X pins σ H s):H s.heap.objs.size=none:=I.hok.fresh (Nat.le_refl _)
theorem Inv.lstM(I:Inv X pins σ H s)(hH:H l=some (.lst xs)):xs.length≤sizeLine∧∃(its:List Value) (n:Nat),Vals xs its∧xs.length=its.length∧s.heap.get? l=some {cls:= .type "list",data:= .seq its.toArray n}:=by
 obtain⟨z,its,n,r,e⟩:=I.hok l _ hH
 exact⟨z,its,n,r,r.length,e⟩
theorem qy{n:Nat}(h:n≤sizeLine):Builtin.List.listTooLong n=false:=by
 unfold Builtin.List.listTooLong
 exact decide_eq_false (by omega)
end
section
variable{X:Cx}
def je:V→List V→Hp→VK→Prop:=fun x vs H Q=>∃l xs y,x= .ref l∧vs=[y]∧H l=some (.lst xs)∧xs.length<sizeLine∧Q .non (upd H l (.lst (xs++[y])))
theorem cZ:MtM X "list.append" je:=by
 intro pins s σ H x vs v us Q I rx rv h
 obtain⟨l,xs,y,rfl,rfl,hH,hz,q⟩:=h
 cases rx
 obtain⟨u,rfl,ru⟩:=rv.one
 obtain⟨z,its,n,r,hl,e⟩:=I.lstM hH
 refine call_meets F.slot_list_append ⟨_,e,rfl⟩ F.entry_list_append (F.args_list_append_2 _ _) (PySem.list_append l its.toArray n u (by rw[List.size_toArray];omega)) ⟨e, ?_⟩
 refine⟨.non,_,I.lset (its':=its++[u]) hH e (by simp) (r.append (.cons ru .nil)) ?_,rfl,q⟩
 rw[List.length_append,List.length_singleton]
 omega
def ss:V→List V→Hp→VK→Prop:=fun x vs H Q=>∃l b xs zs,x= .ref l∧vs=[.ref b]∧H l=some (.lst xs)∧H b=some (.lst zs)∧xs.length+zs.length≤sizeLine∧Q .non (upd H l (.lst (xs++zs)))
theorem oi:MtM X "list.extend" ss:=by
 intro pins s σ H x vs v us Q I rx rv h
 obtain⟨l,b,xs,zs,rfl,rfl,hH,hB,hz,q⟩:=h
 cases rx
 obtain⟨u,rfl,ru⟩:=rv.one
 cases ru
 obtain⟨z,its,n,r,hl,e⟩:=I.lstM hH
 obtain⟨z2,its2,n2,r2,hl2,e2⟩:=I.lstM hB
 have hsz:its.toArray.size+its2.toArray.size≤sizeLine:=by rw[List.size_toArray,List.size_toArray];omega
 have hlong:¬(!its.toArray.isEmpty&&Builtin.List.listTooLong (its.toArray.size+its2.toArray.size))=true:=by
  rw[qy hsz,Bool.and_false]
  exact Bool.false_ne_true
 refine call_meets F.slot_list_extend ⟨_,e,rfl⟩ F.entry_list_extend (F.args_list_extend_2 _ _)
  (AutoSeq1.list_extend_list_list_0 l its.toArray n b its2.toArray n2 hlong (by rw[List.size_toArray];omega) (by omega)) ⟨e,e2, ?_⟩
 refine⟨.non,_,I.lset (its':=its++its2) hH e (by simp) (r.append r2) ?_,rfl,q⟩
 rw[List.length_append]
 omega
def jy:V→List V→Hp→VK→Prop:=fun x vs H Q=>∃l xs,x= .ref l∧vs=[]∧H l=some (.lst xs)∧Q .non (upd H l (.lst xs.reverse))
theorem j0:MtM X "list.reverse" jy:=by
 intro pins s σ H x vs v us Q I rx rv h
 obtain⟨l,xs,rfl,rfl,hH,q⟩:=h
 cases rx
 have hus:=rv.zero
 subst hus
 obtain⟨z,its,n,r,hl,e⟩:=I.lstM hH
 refine call_meets F.slot_list_reverse ⟨_,e,rfl⟩ F.entry_list_reverse (F.args_list_reverse_1 _) (AutoSeq1.list_reverse_list_0 l its.toArray n (by rw[List.size_toArray];omega)) ⟨e, ?_⟩
 refine⟨.non,_,I.lset (its':=its.reverse) hH e (by simp) r.reverse ?_,rfl,q⟩
 rw[List.length_reverse]
 omega
def Ad:R2:=fun x y H Q=>∃l b xs zs,x= .ref l∧y= .ref b∧H l=some (.lst xs)∧H b=some (.lst zs)∧xs.length+zs.length≤sizeLine∧∀p,H p=none→Q (.ref p) (upd H p (.lst (xs++zs)))
theorem yN:OpR X (binaryOp .Add) Ad:=by
 intro pins s σ H x y v u Q I rx ry h
 obtain⟨l,b,xs,zs,rfl,rfl,hH,hB,hz,q⟩:=h
 cases rx
 cases ry
 obtain⟨z,its,n,r,hl,e⟩:=I.lstM hH
 obtain⟨z2,its2,n2,r2,hl2,e2⟩:=I.lstM hB
 refine PySem.P.add_list e e2 ?_ (by rw[List.size_toArray,List.size_toArray];omega)
 have ea:its.toArray++its2.toArray=(its++its2).toArray:=by simp
 rw[ea]
 exact⟨.ref _,_,I.lnew (t':=s.toks) (r.append r2) (by rw[List.length_append];omega),rfl,q _ I.fresh⟩
def Ae:R2:=fun x y H Q=>∃l k xs,x= .ref l∧y= .int k∧H l=some (.lst xs)∧ -(2^63)≤k∧k<2^63∧xs.length*k.toNat≤sizeLine∧
 ∀p,H p=none→Q (.ref p) (upd H p (.lst (List.replicate k.toNat xs).flatten))
theorem wC{α:Type}(xs:List α)(k:Nat):(List.replicate k xs).flatten.length=k*xs.length:=by
 induction k with
 |zero=>simp
 |succ k ih=>rw[List.replicate_succ,List.flatten_cons,List.length_append,ih,Nat.succ_mul,Nat.add_comm]
theorem yO:OpR X (binaryOp .Mult) Ae:=by
 intro pins s σ H x y v u Q I rx ry h
 obtain⟨l,k,xs,rfl,rfl,hH,h1,h2,hz,q⟩:=h
 cases rx
 obtain⟨t,rfl⟩:=ry
 obtain⟨z,its,n,r,hl,e⟩:=I.lstM hH
 have hlen:its.toArray.size*k.toNat≤sizeLine:=by rw[List.size_toArray,←hl];exact hz
 have hcap:¬its.toArray.size*k.toNat>(2^63-1)/8:=by
  have:(sizeLine:Nat)≤(2^63-1)/8:=by decide
  omega
 have hfit:¬(!Builtin.List.listFitsIndex k)=true:=by
  rw[fitsIndex_both h1 h2]
  exact Bool.false_ne_true
 have hlong:¬Builtin.List.listTooLong (its.toArray.size*k.toNat)=true:=by
  rw[qy hlen]
  exact Bool.false_ne_true
 have hnew:List.foldl (fun x1 x2=>x1++x2) #[] (List.replicate (if its.toArray.isEmpty=true then 0 else k.toNat) its.toArray)=(List.replicate k.toNat its).flatten.toArray:=by
  have f0:∀m:Nat,List.foldl (fun x1 x2=>x1++x2) #[] (List.replicate m its.toArray)=(List.replicate m its).flatten.toArray:=fun m=>by
   have:=oh its m []
   rw[List.nil_append] at this
   exact this
  rw[f0]
  cases its with
  |nil=>simp
  |cons a r'=>rw[if_neg (by simp)]
 refine wpAny_binaryOp_repeat_ref (T:="list") (U:="int") (by decide) ⟨_,e,rfl⟩ (fun s'=>typeIs_int s' k t) noFill_list_mul F.fills_int_mul F.slot_int_rmul repeat_list F.slot_int_index.lookup
  (call_meets F.slot_int_rmul (typeIs_int s k t) F.entry_int_rmul (F.args_int_rmul_2 _ _) (int___rmul___int_list k t l its.toArray n)
   ⟨e,rfl,⟨_,e,rfl⟩,call_meets F.slot_list_mul ⟨_,e,rfl⟩ F.entry_list_mul (F.args_list_mul_2 _ _) (AutoListH.list___mul___list_int_3 l its.toArray n k t hfit hcap hlong) ⟨e, ?_⟩⟩)
 rw[hnew]
 exact⟨.ref _,_,I.lnew (t':=s.toks) (r.rep k.toNat) (by rw[wC,Nat.mul_comm];exact hz),rfl,q _ I.fresh⟩
end
section
variable{prog:Program}{w:World}{A:Around}{E:Value→Shared→Prop}{s:Shared}
end
section
variable{X:Cx}
end
end L2
namespace Att
open PySem PySem.W PySem.Calls PyProof.Rows
theorem lS{P:Params}{h:Heap}:∀(ns:List Int) (vs:List Value),WellAll P h vs (ns.map WData.int)→IntsAre vs ns:=by
 intro ns
 induction ns with
 |nil=>
  intro vs w
  rw[List.map_nil] at w
  cases w
  exact .nil
 |cons n ns ih=>
  intro vs w
  rw[List.map_cons] at w
  cases w with
  |cons a b=>
   cases a
   exact .cons _ _ (ih _ b)
theorem tU{l:OpenLaw}{n:Nat}(hn:l.most=some n){P:Params}{h:Heap}{args:List WData}{vals:List Value}
 (hpre:l.row.toRowW.claim.pre args=true)(hwl:WellAll P h vals args):
 ∃a vs ns,vals=[Value.ref a]∧args=[WData.list (ns.map WData.int)]∧h.get? a=some {cls:= .type "list",data:= .seq vs.toArray}∧IntsAre vs ns∧ns.length≤n:=by
 have hsh:WShape.hasAll [] args [.list .int]=true:=(pre_splitW hpre).1
 have hc:l.pre.holds [] {args:=args}=true:=(pre_splitW hpre).2
 obtain⟨d,r,rfl,h1,h2⟩:=hasAllW_cons hsh
 obtain rfl:=hasAllW_nil h2
 obtain⟨xs,rfl,h3⟩:=hasW_list h1
 obtain⟨ns,rfl⟩:=items_int h3
 have hlen:ns.length≤n:=by
  unfold OpenLaw.pre at hc
  have h4:(WTm.not (.lt (.lit (.int (n:Int))) (.len (.arg 0)))).holds [] {args:=[.list (ns.map .int)]}=true:=by
   have h4:=(holds_andW hc).1
   rw[hn] at h4
   exact h4
  have h5:=condW_of h4 (w_not (w_lt w_lit (w_len_list (w_arg rfl))))
  rw[List.length_map] at h5
  refine Nat.le_of_not_lt fun q=> ?_
  have q':(n:Int)<((ns.length:Nat):Int):=by omega
  first
   |(rw[decide_eq_true q'] at h5;exact absurd h5 (by decide))
   |(simp at h5;omega)
 cases hwl with
 |cons w1 w2=>
  cases w2
  cases w1 with
  |list ho hall=>exact⟨_,_,ns,rfl,rfl,ho,lS ns _ hall,hlen⟩
theorem tV(l:OpenLaw)(args:List WData):l.row.toRowW.claim.post args (.bool true) args=true:=
 postW_of (r:=l.row.toRowW) (X:=(true==true))
  (show WShape.has [] (.bool true) .bool=true by first|rfl|decide|simp[WShape.has,WShape.arms,WShape.armsAll])
  (show (WTm.eq .res (.lit (.bool true))).value [] {args:=args,res:=some (.bool true),after:=args}=some (.bool (true==true)) from w_eq_bool (w_res rfl) w_lit) rfl
theorem attach_call{l:OpenLaw}{n:Nat}{q:Program}{loose:List Str}{XP:(Str→Option Value)→Heap→Prop}{YP:World→Heap→Prop}{d:DefRec}
 (hn:l.most=some n)(hdf:d.params.defaults=[])
 (call:∀(w:World) (s₀ s₁:Shared) (mg mb:Str→Option Value) (fa:Addr) (o:Obj) (pm cd doc:Value) (a:Addr) (vs:List Value) (ns:List Int),
  Ground q loose [] XP w s₀ mg mb s₁.heap→YP w s₁.heap→
  s₁.heap.get? fa=some o→o.data= .func (docDef d.name d.params d.body d.scope pm cd doc)→s₁.heap.CodeRec cd d.name→mg d.name=some (.ref fa)→
  s₁.heap.get? a=some {cls:= .type "list",data:= .seq vs.toArray}→IntsAre vs ns→ns.length≤n→s₁.gens= #[]→
  codeAny (model l.prog w) callerA (.call (.ref fa) ⟨[.ref a],[]⟩) (fun r s'=>r= .ok (.ret (.bool true))∧OldK s₁.heap s'.heap∧s'.os=s₁.os∧AllBare s'.gens) s₁):
 WalkO q loose XP YP l.row.toRowW d [] (fun f vs=>PySem.call f vs):=by
 intro w s₀ s₁ mg mb G Y fa o pm cd doc dV kV ho hd hcd hD hmg hg args vals as hpre hlay hrd hwl hlo
 obtain rfl:dV= .none:=Dflts.none hD hdf
 obtain rfl:kV= .none:=Dflts.noKw hD
 obtain⟨a,vs,ns,rfl,rfl,hobj,hints,hlen⟩:=tU hn hpre hwl
 refine enter_call (codeAny_mono (call w s₀ s₁ mg mb fa o pm cd doc a vs ns G Y ho (fd_plain hd) hcd hmg hobj hints hlen hg) fun r s' hq=> ?_)
 obtain⟨rfl,h2,h3,h4⟩:=hq
 exact⟨.inl ⟨.bool true, .bool true,[],rfl,fun _=>rfl, .bool true,tV l _,fun _=>⟨List.Pairwise.nil,fun _ hm=>(nomatch hm)⟩⟩,h2,h3,h4⟩
section
variable{prog:Program}{w:World}{A:Around}{E:Value→Shared→Prop}{s:Shared}{K:Frag}
end
end Att
namespace L2
open PySem PySem.Spec PyProof.Rows
theorem ol:∀{vs:List Value} {ns:List Int},IntsAre vs ns→Vals (ns.map V.int) vs
 |_,_, .nil=> .nil
 |_,_, .cons n t h=> .cons ⟨t,rfl⟩ (ol h)
def yP(H:Hp):Prop:=∀b,H b=none∨∃o xs,H b=some (.frz o (.lst xs))
theorem uI{P:Program}{w:World}{K:W.Frag}{mg mb:Str→Option Value}{CX:CXT}{k:Nat}{fa a:Addr}{fd:FuncData}{x:Str}{sp:Sp}{s₁:Shared}{vs:List Value}{ns:List Int}
 (KX:K.In s₁.heap)(hns:s₁.heap.Ns mainGlobals mg)(hb:s₁.heap.Ns builtinsNs mb)(hbb:∀x:Str,x≠"__name__"→mb x=bootBuiltins x)(hlim:s₁.heap.NoLimit)(hg:s₁.gens= #[])
 (ha:s₁.heap.get? a=some {cls:= .type "list",data:= .seq vs.toArray})(hi:IntsAre vs ns)(hl:ns.length≤sizeLine)(hr:Room k callerA)
 (F:∀base:Heap,K.In base→base.Ns mainGlobals mg→FnOk P w K mg base CX k fa fd [x] sp)(hbind:∀(s:Shared) (u:Value),BindsTo s fd ⟨[u],[]⟩ [(x,u)])
 (hsp:∀H:Hp,yP H→SqL K H a (ns.map V.int)→sp [.ref a] H (fun v _=>v= .bl true) fun _ _ _=>False)
 (hCX:∀H e s',CX [] H s₁ (fun _ _ _=>False) e s'→False):
 codeAny (model P w) callerA (.call (.ref fa) ⟨[.ref a],[]⟩) (fun r s'=>r= .ok (.ret (.bool true))∧OldK s₁.heap s'.heap∧s'.os=s₁.os∧AllBare s'.gens) s₁:=by
 have rv:=ol hi
 have lenV:=hi.length
 have core:∀H:Hp,yP H→SqL K H a (ns.map V.int)→HOk P w H s₁.heap→(∀b,H b≠none→b=a)→(H a≠none→K.lookup a=none)→
  codeAny (model P w) callerA (.call (.ref fa) ⟨[.ref a],[]⟩) (fun r s'=>r= .ok (.ret (.bool true))∧OldK s₁.heap s'.heap∧s'.os=s₁.os∧AllBare s'.gens) s₁:=by
  intro H hO hS hok hA hK
  have base_of:∀{b:Addr} {o:Obj},s₁.heap.get? b=some o→H b=none→(oW s₁.heap H).get? b=some o:=fun e n=>ur e n
  have noA:∀{b:Addr} {o:Obj} {es:Array DictEntry} {ep:Nat},s₁.heap.get? b=some o→o.data= .dict es ep→H b=none:=fun {b o es ep} e d=>by
   cases q:H b with
   |none=>rfl
   |some u=>
    have e':b=a:=hA b (by rw[q];simp)
    subst e'
    rw[ha] at e;cases e
    have d':Data.seq vs.toArray _=Data.dict es ep:=d
    cases d'
  have nsK:∀{b:Addr} {m:Str→Option Value},s₁.heap.Ns b m→(oW s₁.heap H).Ns b m:=fun {b m} ⟨o,es,ep,e,d,r⟩=>⟨o,es,ep,base_of e (noA e d),d,r⟩
  have hKb:K.In (oW s₁.heap H):=fun b o e=>base_of (KX b o e) (by
   cases q:H b with
   |none=>rfl
   |some u=>
    have e':b=a:=hA b (by rw[q];simp)
    subst e'
    rw[hK (by rw[q];simp)] at e;cases e)
  have hM:Mod K mg (oW s₁.heap H):=⟨hKb,nsK hns,⟨mb,nsK hb,hbb⟩,let⟨mc,h1,h2⟩:=hlim;⟨mc,nsK h1,h2⟩⟩
  have e0:Env0 P w K mg (oW s₁.heap H) callerA [] s₁ H:=⟨rfl,hM,fun b o e=>wk e,Nat.le_of_eq (tM _ _),trivial,fun b hb=>absurd (show b∈([]:List Addr) from hb) (by simp),hok, .of_eq hg⟩
  refine codeAny_mono ((F _ hKb (nsK hns)).run callerA [] s₁ H ⟨[.ref a],[]⟩ [.ref a] [.ref a] _ _ hr e0 (hbind s₁ (.ref a)) (.cons rfl .nil) (hsp H hO hS)) fun r s' h=> ?_
  cases r with
  |error e=>exact(hCX H e s' h).elim
  |ok fl=>
   cases fl with
   |next=>exact False.elim h
   |brk=>exact False.elim h
   |cont=>exact False.elim h
   |ret u=>
    obtain⟨v,H',os,bare,un,hok',r',q⟩:=h
    have q':v= .bl true:=q
    subst q'
    obtain rfl:u=Value.bool true:=r'
    refine⟨rfl,OldK.of_keep fun b o e=> ?_,os,bare⟩
    cases q:H b with
    |none=>exact un.keep b o e q (by intro z;exact absurd (show b∈([]:List Addr) from z) (by simp)) (by simp)
    |some u=>
     rcases hO b with z|⟨ob,xs,z⟩
     · rw[q] at z;cases z
     · have z2:=un.frzs b ob _ z
       obtain⟨e1,_⟩:=hok b _ z
       obtain⟨e2,_⟩:=hok' b _ z2
       rw[e] at e1;cases e1
       exact e2
 cases hk:K.lookup a with
 |some o=>
  have e:=KX a o hk
  rw[ha] at e
  cases e
  refine core (fun _=>none) (fun _=> .inl rfl) (.inr ⟨_,vs.toArray,_,hk,rfl,rfl,rfl,by rw[List.size_toArray,lenV];exact hl,by simpa using rv⟩) (fun b u z=>by have z':(none:Option HO)=some u:=z;cases z') (fun b z=>absurd rfl z) fun z=>absurd rfl z
 |none=>
  refine core (fun b=>if b=a then some (.frz {cls:= .type "list",data:= .seq vs.toArray} (.lst (ns.map V.int))) else none) (fun b=> ?_) (.inl (.inr ⟨{cls:= .type "list",data:= .seq vs.toArray},if_pos rfl⟩)) (fun b u z=> ?_) (fun b z=> ?_) fun _=>hk
  · by_cases hb:b=a
    · exact .inr ⟨_,_,if_pos hb⟩
    · exact .inl (if_neg hb)
  · by_cases hb:b=a
    · have z':=(if_pos hb).symm.trans z
      cases z'
      subst hb
      exact⟨ha,by rw[List.length_map];exact hl,vs,_,rv,ha⟩
    · have z':=(if_neg hb).symm.trans z
      cases z'
  · by_cases hb:b=a
    · exact hb
    · exact absurd (if_neg hb) z
end L2
namespace L2
open PySem PySem.Spec PyProof.Rows
abbrev KOf{K:W.Frag}{h:Heap}(_:K.In h):W.Frag:=K
theorem walk_of{l:W.OpenLaw}{n k:Nat}{q:Program}{loose:List Str}{XP:(Str→Option Value)→Heap→Prop}{YP:World→Heap→Prop}{d:DefRec}{K:Params→W.Frag}{CX:World→CXT}{sp:World→Sp}{x:Str}
 (hn:l.most=some n)(hn2:n≤sizeLine)(hdf:d.params.defaults=[])(hr:Room k callerA)
 (hY:∀(w:World) (h:Heap),YP w h→(K w.params).In h)
 (F:∀(w:World) (mg:Str→Option Value) (fa:Addr) (h:Heap),(K w.params).In h→h.Ns mainGlobals mg→mg d.name=some (.ref fa)→
  ∃fd:FuncData,(∀(s:Shared) (u:Value),BindsTo s fd ⟨[u],[]⟩ [(x,u)])∧
   ∀base:Heap,(K w.params).In base→base.Ns mainGlobals mg→FnOk l.prog w (K w.params) mg base (CX w) k fa fd [x] (sp w))
 (hsp:∀(w:World) (H:Hp) (a:Addr) (ns:List Int),ns.length≤n→yP H→SqL (K w.params) H a (ns.map V.int)→sp w [.ref a] H (fun v _=>v= .bl true) fun _ _ _=>False)
 (hCX:∀(w:World) (H:Hp) (s:Shared) (e:Value) (s':Shared),CX w [] H s (fun _ _ _=>False) e s'→False):
 W.WalkO q loose XP YP l.row.toRowW d [] (fun f vs=>PySem.call f vs):=by
 refine Att.attach_call hn hdf fun w s₀ s₁ mg mb fa o pm cd doc a vs ns G Y ho hd hcd hmg hobj hints hlen hg=> ?_
 have KX:=hY w _ Y
 obtain⟨fd,hb,hF⟩:=F w mg fa _ KX G.T.g hmg
 exact uI KX G.T.g G.T.b G.T.builtins G.T.nolimit hg hobj hints (Nat.le_trans hlen hn2) hr hF hb (fun H hO hS=>hsp w H a ns hlen hO hS) fun H e s'=>hCX w H s₁ e s'
end L2
namespace L2
open PySem PySem.Spec PyProof.Rows
def mm(s:Stmt)(j:Nat):Stmt:=match s with
 | .ClassDef _ _ _ body _ _ _ _ _ _ _=>body.getD j (.Pass ⟨0,0,0,0⟩)
 |_=> .Pass ⟨0,0,0,0⟩
def bQ(s:Stmt):Arguments:=match s with
 | .FunctionDef _ a _ _ _ _ _ _ _ _=>a
 |_=>{posonlyargs:=[],args:=[],vararg:=none,kwonlyargs:=[],kw_defaults:=[],kwarg:=none,defaults:=[]}
def bP(s:Stmt):List Stmt:=match s with
 | .FunctionDef _ _ b _ _ _ _ _ _ _=>b
 |_=>[]
def aQ(s:Stmt):Scope:=match s with
 | .FunctionDef _ _ _ _ _ _ sc _ _ _=>sc
 |_=>{kind:= .function,names:=[],isGenerator:=false,isCoroutine:=false}
abbrev CX0:CXT:=fun _ _ _ _ _ _=>False
abbrev E0:XK:=fun _ _ _=>False
theorem xU{X:Cx}:mI CX0 X E0:=fun _ _ _ _ _ _ _ h=>h.elim
structure Fun(K:W.Frag)(x qual:Str)(st:Stmt)(f:Addr)(fd:FuncData):Prop where
 ex:∃(oc:Value) (od:Option Addr) (kV doc pm:Value) (an:Option Addr) (cdv ct:Value) (osl:Array (Option Value)),
  fd=W.fnOf x qual (bQ st) (bP st) (aQ st) .none kV doc pm an cdv ct∧K.lookup f=some ⟨oc,od, .func fd,osl⟩∧W.codeIn K cdv qual=true
 kp:W.keepIn K (.ref f)=true
section
variable{P:Program}{w:World}{K:W.Frag}{mg:Str→Option Value}{base:Heap}
theorem Fun.ok{x qual:Str}{st:Stmt}{f:Addr}{fd:FuncData}{N ps:List Str}{k:Nat}{sp:Sp}(F:Fun K x qual st f fd)(S:FnScope N ps (aQ st))(len:∀vs H Q E,sp vs H Q E→vs.length=ps.length)
 (hbody:∀(cdv:Value) (A:Around) (outer:List Env) (s:Shared) (H:Hp) (vs:List V) (Q:VK) (E:XK),Room k (A.deeper (envOfC qual (aQ st) s.heap.objs.size f cdv))→sp vs H Q E→
  ∃t,PSs (tS CX0 P w K mg base N qual (aQ st) f cdv A outer s H E).nox (bP st) t∧t {nx:=fun _ H'=>Q .non H',rt:=Q} (start N vs) H):FnOk P w K mg base CX0 (k+1) f fd ps sp:=by
 obtain⟨oc,od,kV,doc,pm,an,cdv,ct,osl,rfl,lk,hcd⟩:=F.ex
 refine zY lk hcd S len fun A outer s H vs Q E hr hsp=> ?_
 obtain⟨t,h,q⟩:=hbody cdv A outer s H vs Q E hr hsp
 exact⟨t,h.nox,q⟩
theorem Fun.binds{x qual:Str}{st:Stmt}{f:Addr}{fd:FuncData}{ps:List Str}(F:Fun K x qual st f fd)
 (h:∀(kV doc pm:Value) (an:Option Addr) (cdv ct:Value) (us:List Value),us.length=ps.length→bindArgs (W.fnOf x qual (bQ st) (bP st) (aQ st) .none kV doc pm an cdv ct) ⟨us,[]⟩=pure (ps.zip us)):Binds K fd ps []:=by
 obtain⟨oc,od,kV,doc,pm,an,cdv,ct,osl,rfl,lk,hcd⟩:=F.ex
 exact .all (h kV doc pm an cdv ct)
theorem cu{x qual:Str}{st:Stmt}{f:Addr}{oc:Value}{od an:Option Addr}{osl:Array (Option Value)}{kV doc pm cdv ct:Value}(l:K.lookup f=some ⟨oc,od, .func (W.fnOf x qual (bQ st) (bP st) (aQ st) .none kV doc pm an cdv ct),osl⟩)
 (c:W.codeIn K cdv qual=true)(k:W.keepIn K (.ref f)=true):Fun K x qual st f (W.fnOf x qual (bQ st) (bP st) (aQ st) .none kV doc pm an cdv ct):=⟨⟨oc,od,kV,doc,pm,an,cdv,ct,osl,rfl,l,c⟩,k⟩
end
section
variable{X:Cx}
theorem pv(i:Nat){x:Str}{pos:Pos}(hN:X.N[i]? =some x:=by rfl)(hv:Vis X.env.scope x:=by first|exact Or.inl rfl|exact Or.inr (Or.inl rfl)|exact Or.inr (Or.inr rfl))(hd:(x==("__debug__":Str))=false:=by decide)
 (hcd:(x==("__classdict__":Str))=false:=by decide):PE X (.Name x pos) (hV i):=yt hN hv hd hcd
end
def Same(H H':Hp):Prop:=∀b o,H b=some o→H' b=some o
theorem Same.refl(H:Hp):Same H H:=fun _ _ h=>h
theorem Same.trans{H H1 H2:Hp}(a:Same H H1)(b:Same H1 H2):Same H H2:=fun c o h=>b c o (a c o h)
theorem Same.free{H H':Hp}(e:Same H H'){l:Addr}(h:H' l=Option.none):H l=Option.none:=by
 cases q:H l with
 |none=>rfl
 |some o=>
  rw[e l o q] at h
  cases h
theorem Same.seq{K:W.Frag}{H H':Hp}{a:Addr}{xs:List V}(e:Same H H')(h:SqL K H a xs):SqL K H' a xs:=by
 rcases h with(h|⟨o,h⟩)|h
 · exact .inl (.inl (e _ _ h))
 · exact .inl (.inr ⟨o,e _ _ h⟩)
 · exact .inr h
end L2
set_option maxHeartbeats 4000000
namespace Fr
def G(a b:Int):Int:=((Int.gcd a b:Nat):Int)
def Af(a b:Int):Int:=if b<0 then-G a b else G a b
def mk(a b:Int):Int×Int:=(a.fdiv (Af a b),b.fdiv (Af a b))
def low(a b:Int):Int×Int:=(a.fdiv (G a b),b.fdiv (G a b))
end Fr
namespace L2
open PySem PySem.Spec PyProof.Rows
section
variable{X:Cx}{a b c:Expr}{ta tb tc:TE}{pos:Pos}
theorem wD:OpR X (binaryOp .Mult) (rI IntMulOk fun i j=> .int (i*j)):=opI fun _ _ _ _ _ _ _ hc q=>mul_int q hc
def yQ(xs ys:List V):Bool:=(List.range (min xs.length ys.length)).all (fun j=>eqV (xs.getD j .non) (ys.getD j .non))&&xs.length==ys.length
def Ag(K:W.Frag):R2:=fun x y H Q=>∃a b xs ys,x= .ref a∧y= .ref b∧SqT K H a xs∧SqT K H b ys∧xs.all flatV=true∧ys.all flatV=true∧Q (.bl (yQ xs ys)) H
theorem qz{xs:List V}{us:List Value}(r:Vals xs us){j:Nat}(h:j<us.length):RelV (xs.getD j .non) us[j]:=by
 have hl:=r.length
 have hx:j<xs.length:=by omega
 obtain⟨u,e,q⟩:=r.get (i:=j) (x:=xs[j]) (by rw[List.getElem?_eq_getElem hx])
 rw[List.getElem?_eq_getElem h] at e
 cases e
 rw[List.getD_eq_getElem?_getD,List.getElem?_eq_getElem hx]
 exact q
theorem qA{p:V→Bool}{xs:List V}(h:xs.all p=true){j:Nat}(hj:j<xs.length):p (xs.getD j .non)=true:=by
 rw[List.getD_eq_getElem?_getD,List.getElem?_eq_getElem hj]
 exact List.all_eq_true.mp h _ (List.getElem_mem hj)
theorem yR(hu:X.A.units<cLine):OpR X (compareOp .Eq) (Ag X.K):=by
 intro pins s σ H x y v u Q I rx ry h
 obtain⟨p,q,xs,ys,rfl,rfl,h1,h2,f1,f2,k⟩:=h
 cases rx
 cases ry
 obtain⟨its,r,pl,hz⟩:=I.tuple h1
 obtain⟨its2,r2,pl2,hz2⟩:=I.tuple h2
 have l1:=r.length
 have l2:=r2.length
 refine SeqAt.eq_tupleAt (e:=fun j=>eqV (xs.getD j .non) (ys.getD j .non)) pl pl2 hu (fun j g1 g2=> ?_) ⟨.bl _,H,I,rfl, ?_⟩
 · have g1':j<its.length:=by simpa using g1
   have g2':j<its2.length:=by simpa using g2
   have e:=yM (A:=X.A.in1) (s:=s) (qz r g1') (qz r2 g2') (qA f1 (by omega)) (qA f2 (by omega))
   simpa using e
 · have e:((List.range (min its.toArray.size its2.toArray.size)).all (fun j=>eqV (xs.getD j .non) (ys.getD j .non))&&its.toArray.size==its2.toArray.size)=yQ xs ys:=by
    unfold yQ
    rw[List.size_toArray,List.size_toArray,l1,l2]
   rw[e]
   exact k
theorem fX:CallR X (.builtin "isinstance") (fun xs H Q=>∃x T t k,xs=[x, .ty T]∧TyOf X.K H x t∧W.kitOne X.K t (.type T)=some k∧Q (.bl k) H):=by
 intro pins s σ H xs us Q I r h
 obtain⟨x,T,t,k,rfl,ty,e,q⟩:=h
 obtain⟨u,v,rfl,rx,rv⟩:=Vals.two r
 cases rv
 exact n4 I rx ty e fun tk=>⟨.bl k,H,I.tok _,rfl,q⟩
end
section
variable{X:Cx}{a b c:Expr}{ta tb tc:TE}{pos:Pos}
theorem yS:OpR X (compareOp .Eq) (rI0 fun i j=> .bl (decide (i=j))):=ux fun _ _ _ _ _ _ _ q=>eq_int (by rw[Bool.beq_eq_decide_eq];exact q)
theorem yT:OpR X (compareOp .NotEq) (rI0 fun i j=> .bl (!decide (i=j))):=ux fun _ _ _ _ _ _ _ q=>ne_int (by rw[bne,Bool.beq_eq_decide_eq];exact q)
def xV:R2:=fun x y H Q=>∃i j,x= .str i∧y= .str j∧i.length+j.length≤sizeLine∧Q (.str (i++j)) H
def xW:R2:=fun x y H Q=>rI0 (fun i j=> .int (i+j)) x y H Q∨xV x y H Q∨Ad x y H Q
theorem wE:OpR X (binaryOp .Add) xW:=yz.or ((show OpR X (binaryOp .Add) xV from rm).or yN)
theorem lT:CallR X (.builtin "len") (fun xs H Q=>(∃p ys,xs=[.ref p]∧(SqL X.K H p ys∨SqT X.K H p ys)∧Q (.int ys.length) H)∨∃z,xs=[.str z]∧z.length≤sizeLine∧Q (.int z.length) H):=ph.or pi
theorem su{u v z:Int}{i j:Nat}{p q r:Pos}(h:zT u v)(e:u^v.toNat=z):PE X (.BinOp (.Constant (.int u) i p) .Pow (.Constant (.int v) j q) r) (tC (.int z)):=by
 intro pins s σ H Q I hq
 refine(bG yA aR aR) pins s σ H Q I ⟨_,_,rfl,rfl,h, ?_⟩
 show Q (.int (u^v.toNat)) H
 rw[e];exact hq
end
theorem ju:bootBuiltins "len"=some (.builtin "len"):=by decide+kernel
theorem cb:bootBuiltins "isinstance"=some (.builtin "isinstance"):=by decide+kernel
theorem mK:bootBuiltins "max"=some (.builtin "max"):=by decide+kernel
theorem Ah:bootBuiltins "int"=some (.type "int"):=by decide+kernel
theorem uJ:bootBuiltins "bool"=some (.type "bool"):=by decide+kernel
theorem mn:bootBuiltins "tuple"=some (.type "tuple"):=by decide+kernel
theorem jz:bootBuiltins "list"=some (.type "list"):=by decide+kernel
theorem xX:bootBuiltins "str"=some (.type "str"):=by decide+kernel
structure Got(P:Program)(w:World)(K:W.Frag)(mg:Str→Option Value)(base:Heap)(k:Nat)(x:Str)(ps:List Str)(sp:Sp):Prop where
 ex:∃f fd,FnOk P w K mg base CX0 k f fd ps sp∧Binds K fd ps []∧W.keepIn K (.ref f)=true∧mg x=some (.ref f)
section
variable{X:Cx}{k n:Nat}{x:Str}{ps:List Str}{sp:Sp}{p pos:Pos}{e:Expr}{es:List Expr}{t:TA}
theorem bT(g:Got X.prog X.w X.K X.mg X.base k x ps sp)(hr:Room n X.A)(hk:k≤n)(hg:Gl X x)(ha:PA X (e::es) t)(hdb:(x==("__debug__":Str))=false:=by decide)
 (he:starEach (e::es) X.env=(false,eval e X.env)::starEach es X.env:=by rfl)(hpl:(backTo pos (starEach es X.env)).any (·.1)=false:=by rfl):
 PE X (.Call (.Name x p) (e::es) [] pos) (n5 sp [] E0 t):=by
 obtain⟨f,fd,F,hb,hkp,hm⟩:=g.ex
 exact wu F (hr.mono hk) hg hm hkp hb .nil xU ha hdb he hpl
end
mutual
inductive RdD(K:W.Frag)(H:Hp):V→PyData→Prop where
 |non:RdD K H .non .none
 |bl (b:Bool):RdD K H (.bl b) (.bool b)
 |int (i:Int):RdD K H (.int i) (.int i)
 |str (x:Str):RdD K H (.str x) (.str x)
 |lst {a:Addr} {xs:List V} {ds:List PyData}:SqL K H a xs→RdDs K H xs ds→RdD K H (.ref a) (.list ds)
 |tup {a:Addr} {xs:List V} {ds:List PyData}:SqT K H a xs→RdDs K H xs ds→RdD K H (.ref a) (.tuple ds)
inductive RdDs(K:W.Frag)(H:Hp):List V→List PyData→Prop where
 |nil:RdDs K H [] []
 |cons {x:V} {xs:List V} {d:PyData} {ds:List PyData}:RdD K H x d→RdDs K H xs ds→RdDs K H (x::xs) (d::ds)
end
section
variable{X:Cx}{pins:List (Addr×Obj)}{σ:St}{H:Hp}{s:Shared}{h':Heap}
theorem RdD.reads(I:Inv X pins σ H s){x:V}{d:PyData}{u:Value}(q:RdD X.K H x d):RelV x u→∃as,Reads s.heap u d as:=
 RdD.rec (motive_1:=fun x d _=>∀u:Value,RelV x u→∃as,Reads s.heap u d as) (motive_2:=fun xs ds _=>∀us:List Value,Vals xs us→∃as,ReadsAll s.heap us ds as)
  (fun u r=>by cases r;exact⟨_, .none⟩) (fun b u r=>by cases r;exact⟨_, .bool b⟩) (fun i u r=>by obtain⟨t,rfl⟩:=r;exact⟨_, .int i t⟩) (fun x u r=>by obtain⟨t,rfl⟩:=r;exact⟨_, .str x t⟩)
  (fun h _ ih u r=>by
   cases r
   obtain⟨its,rv,⟨o,n,e,c,_,d⟩,_⟩:=I.list h
   obtain⟨as,ra⟩:=ih its rv
   exact⟨_, .list e c d (by simpa using ra)⟩)
  (fun h _ ih u r=>by
   cases r
   obtain⟨its,rv,⟨o,e,c,n,d⟩,_⟩:=I.tuple h
   obtain⟨as,ra⟩:=ih its rv
   exact⟨_, .tuple e c d (by simpa using ra)⟩)
  (fun us r=>by cases r;exact⟨_, .nil⟩)
  (fun _ _ h t us r=>by
   cases r with
   |cons r rs=>
    obtain⟨as,ra⟩:=h _ r
    obtain⟨bs,rb⟩:=t _ rs
    exact⟨_, .cons ra rb⟩) q u
def wF(K:W.Frag)(neg:Bool):R2:=fun x y H Q=>∃d e,RdD K H x d∧RdD K H y e∧SeqAt.shaped d=true∧SeqAt.shaped e=true∧Q (.bl (if neg then !(PyData.eqv d e) else PyData.eqv d e)) H
theorem yU(hu:X.A.units+64<cLine):OpR X (compareOp .Eq) (wF X.K false):=by
 intro pins s σ H x y v u Q I rx ry h
 obtain⟨d,e,h1,h2,s1,s2,q⟩:=h
 obtain⟨as,ra⟩:=h1.reads I rx
 obtain⟨bs,rb⟩:=h2.reads I ry
 exact eq_dataH ra rb s1 s2 hu ⟨.bl _,H,I,rfl,q⟩
theorem yV(hu:X.A.units+64<cLine):OpR X (compareOp .NotEq) (wF X.K true):=by
 intro pins s σ H x y v u Q I rx ry h
 obtain⟨d,e,h1,h2,s1,s2,q⟩:=h
 obtain⟨as,ra⟩:=h1.reads I rx
 obtain⟨bs,rb⟩:=h2.reads I ry
 exact ne_dataH ra rb s1 s2 hu ⟨.bl _,H,I,rfl,q⟩
mutual
theorem RdD.mono{K:W.Frag}{H H':Hp}(S:Same H H'):∀{x:V} {d:PyData},RdD K H x d→RdD K H' x d
 |_,_, .non=> .non
 |_,_, .bl b=> .bl b
 |_,_, .int i=> .int i
 |_,_, .str x=> .str x
 |_,_, .lst h q=> .lst (S.seq h) (RdDs.mono S q)
 |_,_, .tup h q=> .tup (by
  rcases h with(h|⟨o,h⟩)|h
  · exact .inl (.inl (S _ _ h))
  · exact .inl (.inr ⟨o,S _ _ h⟩)
  · exact .inr h) (RdDs.mono S q)
theorem RdDs.mono{K:W.Frag}{H H':Hp}(S:Same H H'):∀{xs:List V} {ds:List PyData},RdDs K H xs ds→RdDs K H' xs ds
 |_,_, .nil=> .nil
 |_,_, .cons h t=> .cons (RdD.mono S h) (RdDs.mono S t)
end
theorem RdDs.append{K:W.Frag}{H:Hp}:∀{xs ys:List V} {ds es:List PyData},RdDs K H xs ds→RdDs K H ys es→RdDs K H (xs++ys) (ds++es)
 |_,_,_,_, .nil,q=>q
 |_,_,_,_, .cons h t,q=> .cons h (RdDs.append t q)
theorem RdDs.take{K:W.Frag}{H:Hp}:∀(n:Nat) {xs:List V} {ds:List PyData},RdDs K H xs ds→RdDs K H (xs.take n) (ds.take n)
 |0,_,_,_=> .nil
 |_+1,_,_, .nil=> .nil
 |n+1,_,_, .cons h t=> .cons h (RdDs.take n t)
theorem RdDs.drop{K:W.Frag}{H:Hp}:∀(n:Nat) {xs:List V} {ds:List PyData},RdDs K H xs ds→RdDs K H (xs.drop n) (ds.drop n)
 |0,_,_,q=>q
 |_+1,_,_, .nil=> .nil
 |n+1,_,_, .cons _ t=>RdDs.drop n t
theorem RdDs.length{K:W.Frag}{H:Hp}:∀{xs:List V} {ds:List PyData},RdDs K H xs ds→xs.length=ds.length
 |_,_, .nil=>rfl
 |_,_, .cons _ t=>congrArg (· +1) (RdDs.length t)
theorem RdDs.get{K:W.Frag}{H:Hp}:∀{xs:List V} {ds:List PyData} {i:Nat} {x:V},RdDs K H xs ds→xs[i]? =some x→∃d,ds[i]? =some d∧RdD K H x d
 |_,_,_,_, .nil,e=>by simp at e
 |_,_,0,_, .cons h _,e=>by simp at e;subst e;exact⟨_,rfl,h⟩
 |_,_,i+1,_, .cons _ t,e=>by
  obtain⟨d,h1,h2⟩:=RdDs.get (i:=i) t (by simpa using e)
  exact⟨d,by simpa using h1,h2⟩
theorem Inv.turnedNew{t':Nat}{ch:List Addr}{T:Addr}{o:HO}(I:Inv X pins σ H s)(k:∀b o,b∉ch→s.heap.get? b=some o→h'.get? b=some o)(hf:∀b∈ch,jU X pins H b)
 (hT:s.heap.objs.size≤T)(new:ObjOk X.prog X.w (upd H T o) h' T o):Inv X pins σ (upd H T o) {s with heap:=h',toks:=t'}:=by
 have hn:H T=none:=I.hok.fresh hT
 have nch:∀b u,H b=some u→b∉ch:=fun b u e z=>by rw[(hf b z).1] at e;cases e
 refine I.step (g':=s.gens) (d':=s.drawn) (ch:=ch) (fun b hb=>⟨(hf b hb).2.2.2.1,(hf b hb).2.1,(hf b hb).2.2.2.2.1,(hf b hb).2.2.2.2.2⟩)
  (fun b o _ _ hc e _=>k b o hc e) (fun b o _ _ hc e _=>⟨o.slots,k b o hc e⟩)
  (fun b o _ e n=>by rw[bO (Nat.ne_of_lt (Nat.lt_of_lt_of_le (Heap.lt_size e) hT))];exact n)
  (fun b o hc e=>⟨o,k b o hc e⟩)
  (fun b xs e=>by rw[bO (bL e hn)];exact e) (fun b o u e=>by rw[bO (bL e hn)];exact e)
  (fun b ps e=>⟨#[],by rw[bO (bL e hn),e];simp⟩) (fun m hm=> ?_) (fun b u e=> ?_) I.bare
 · obtain⟨ob,es,ep,ho,r⟩:=hm
   exact⟨ob,es,ep,k _ ob (fun z=>(hf _ z).2.1 rfl) ho,r⟩
 · by_cases hb:b=T
   · subst hb;rw[bV] at e;cases e;exact new
   · rw[bO hb] at e
     refine(I.hok b u e).stay (fun c v hc q=>k c v ?_ q) (fun c q=>by rw[bO (bL q hn)];exact q) fun c xs q=>by rw[bO (bL q hn)];exact q
     rcases hc with z|z
     · rw[z];exact nch b u e
     · exact nch c _ z
theorem Inv.turnedL{t':Nat}{ch:List Addr}(I:Inv X pins σ H s)(k:∀b o,b∉ch→s.heap.get? b=some o→h'.get? b=some o)(hf:∀b∈ch,jU X pins H b):
 Inv X pins σ H {s with heap:=h',toks:=t'}:=by
 have nch:∀b u,H b=some u→b∉ch:=fun b u e z=>by rw[(hf b z).1] at e;cases e
 refine I.step (g':=s.gens) (d':=s.drawn) (ch:=ch) (fun b hb=>⟨(hf b hb).2.2.2.1,(hf b hb).2.1,(hf b hb).2.2.2.2.1,(hf b hb).2.2.2.2.2⟩)
  (fun b o _ _ hc e _=>k b o hc e) (fun b o _ _ hc e _=>⟨o.slots,k b o hc e⟩) (fun _ _ _ _ n=>n)
  (fun b o hc e=>⟨o,k b o hc e⟩) (fun _ _ e=>e) (fun _ _ _ e=>e) (fun b ps e=>⟨#[],by rw[e];simp⟩) (fun m hm=> ?_) (fun b u e=> ?_) I.bare
 · obtain⟨ob,es,ep,ho,r⟩:=hm
   exact⟨ob,es,ep,k _ ob (fun z=>(hf _ z).2.1 rfl) ho,r⟩
 · refine(I.hok b u e).stay (fun c v hc q=>k c v ?_ q) (fun _ q=>q) fun _ _ q=>q
   rcases hc with z|z
   · rw[z];exact nch b u e
   · exact nch c _ z
def Itz(K:W.Frag)(l1 l2:Addr):It:=
 ⟨fun i H=>∃xs ys,SqL K H l1 xs∧SqL K H l2 ys∧i<xs.length∧i<ys.length,
  fun i H x H'=>∃T a b,H T=none∧x= .ref T∧H'=upd H T (.tup [a,b])∧(∀xs,SqL K H l1 xs→xs[i]? =some a)∧(∀ys,SqL K H l2 ys→ys[i]? =some b),
  fun i H=>∃xs ys,SqL K H l1 xs∧SqL K H l2 ys∧(xs.length≤i∨ys.length≤i)⟩
def xY(z TI TO i1 i2 l1 l2:Addr)(i:Nat)(h:Heap):Prop:=IsZip h z TI TO .none∧IsPair h TI (.ref i1) (.ref i2)∧(∃a b,IsPair h TO a b)∧h.IsListIter i1 l1 i∧h.IsListIter i2 l2 i
theorem uK{P:Program}{w:World}{K:W.Frag}{elts:List Expr}{kk:Nat}{tpos:Pos}(z TI TO i1 i2 l1 l2:Addr)(D:ZipApart z TI TO i1 i2 l1 l2):
 Turn P w K (.Tuple elts kk tpos) (Itz K l1 l2) [z,TI,TO,i1,i2] z (xY z TI TO i1 i2 l1 l2) where
 mem:=by simp
 obj:=fun i h st b hb=>by
  obtain⟨hz,hTI,⟨a,c,hTO⟩,⟨o1,e1,_,d1⟩,⟨o2,e2,_,d2⟩⟩:=st
  simp only[List.mem_cons,List.not_mem_nil,or_false] at hb
  rcases hb with rfl|rfl|rfl|rfl|rfl
  · exact⟨_,hz,fun v q=>by cases (show Data.fields _=Data.cell v from q)⟩
  · exact⟨_,hTI,fun v q=>by cases (show Data.seq _ _=Data.cell v from q)⟩
  · exact⟨_,hTO,fun v q=>by cases (show Data.seq _ _=Data.cell v from q)⟩
  · exact⟨_,e1,fun v q=>by rw[d1] at q;cases q⟩
  · exact⟨_,e2,fun v q=>by rw[d2] at q;cases q⟩
 keep:=fun i h h' st k=>by
  obtain⟨hz,hTI,⟨a,c,hTO⟩,h1,h2⟩:=st
  exact⟨k z (by simp) _ hz,k TI (by simp) _ hTI,⟨a,c,k TO (by simp) _ hTO⟩,h1.at fun o e=>k i1 (by simp) o e,h2.at fun o e=>k i2 (by simp) o e⟩
 item:=by
  intro X hP hw hK hc i pins s σ H E I hf st hg
  subst hP hw hK
  obtain⟨xs,ys,q1,q2,g1,g2⟩:=hg
  obtain⟨its1,r1,p1,z1⟩:=I.list q1
  obtain⟨its2,r2,p2,z2⟩:=I.list q2
  obtain⟨u1,e1,ru1⟩:=r1.get (List.getElem?_eq_getElem g1)
  obtain⟨u2,e2,ru2⟩:=r2.get (List.getElem?_eq_getElem g2)
  obtain⟨hz,hTI,⟨a,c,hTO⟩,h1,h2⟩:=st
  refine wpAny_pyNext_zip_item D hz hTI hTO h1 h2 p1.isList p2.isList (x:=u1) (y:=u2) (by simpa using e1) (by simpa using e2) fun h1' a1 a2 a3 a4 a5 a6 hk=>⟨_,rfl, ?_⟩
  refine wpAny_letOwnedTupleGo_zip a1 fun h2' hz' hs'=> ?_
  have lt:∀{c o},s.heap.get? c=some o→s.heap.objs.size≠c:=fun e=>Nat.ne_of_gt (Heap.lt_size e)
  have Tz:s.heap.objs.size≠z:=lt hz
  have kz:∀b o,b≠z→h1'.get? b=some o→h2'.get? b=some o:=fun b o hb e=>hs'.extBut _ _ hb e
  have I':Inv X pins σ (upd H s.heap.objs.size (.tup [xs[i],ys[i]])) {s with heap:=h2'}:=by
   refine I.turnedNew (t':=s.toks) (ch:=[z,TO,i1,i2]) (fun b o hb e=> ?_) (fun b hb=>hf b (by
    simp only[List.mem_cons,List.not_mem_nil,or_false] at hb ⊢
    rcases hb with rfl|rfl|rfl|rfl<;>simp)) (Nat.le_refl _) ?_
   · simp only[List.mem_cons,List.not_mem_nil,or_false,not_or] at hb
     exact kz b o hb.1 (hk b o hb.1 hb.2.1 hb.2.2.1 hb.2.2.2 e)
   · exact⟨(by show 2≤sizeLine;decide),[u1,u2], .cons ru1 (.cons ru2 .nil),_,kz _ _ Tz a5,rfl,_,rfl⟩
  refine⟨.ref s.heap.objs.size,_,I',rfl,⟨s.heap.objs.size,xs[i],ys[i],I.hok.fresh (Nat.le_refl _),rfl,rfl,fun xs' q'=> ?_,fun ys' q'=> ?_⟩,⟨hz', ?_,⟨_,_,kz _ _ D.TOz a2⟩, ?_, ?_⟩,fun b hb=> ?_⟩
  · rw[I.list_inj q' q1];exact List.getElem?_eq_getElem g1
  · rw[I.list_inj q' q2];exact List.getElem?_eq_getElem g2
  · exact kz _ _ D.TIz (hk _ _ D.TIz D.TITO D.TIi1 D.TIi2 hTI)
  · exact a3.at fun o e=>kz _ _ D.i1z e
  · exact a4.at fun o e=>kz _ _ D.i2z e
  · have n:=(hf b hb).1
    simp only[List.mem_cons,List.not_mem_nil,or_false] at hb
    have ob:∃o,s.heap.get? b=some o:=by
     obtain⟨o1,x1,_⟩:=h1
     obtain⟨o2,x2,_⟩:=h2
     rcases hb with rfl|rfl|rfl|rfl|rfl
     · exact⟨_,hz⟩
     · exact⟨_,hTI⟩
     · exact⟨_,hTO⟩
     · exact⟨_,x1⟩
     · exact⟨_,x2⟩
    obtain⟨o,eo⟩:=ob
    rw[bO (Ne.symm (lt eo))]
    exact n
 done:=by
  intro X hP hw hK hc i pins s σ H E I hf st hg
  subst hP hw hK
  obtain⟨xs,ys,q1,q2,g⟩:=hg
  obtain⟨its1,r1,p1,z1⟩:=I.list q1
  obtain⟨its2,r2,p2,z2⟩:=I.list q2
  obtain⟨hz,hTI,⟨a,c,hTO⟩,h1,h2⟩:=st
  have l1':=r1.length
  have l2':=r2.length
  have hend:its1.toArray[i]? =none∨its2.toArray[i]? =none:=by
   rcases g with g|g
   · exact .inl (Array.getElem?_eq_none (by rw[List.size_toArray];omega))
   · exact .inr (Array.getElem?_eq_none (by rw[List.size_toArray];omega))
  refine wpAny_pyNext_zip_end (I.ok.hd hc) D hz hTI hTO h1 h2 p1.isList p2.isList hend fun h' hk=>⟨rfl, ?_⟩
  refine I.turnedL (t':=s.toks) (ch:=[z,TO,i1,i2]) (fun b o hb e=> ?_) (fun b hb=>hf b (by
   simp only[List.mem_cons,List.not_mem_nil,or_false] at hb ⊢
   rcases hb with rfl|rfl|rfl|rfl<;>simp))
  simp only[List.mem_cons,List.not_mem_nil,or_false,not_or] at hb
  exact hk b o hb.1 hb.2.1 hb.2.2.1 hb.2.2.2 e
 self:=fun _ _ _ _ _ st h=>wpAny_pyIter_zip st.1 h
end
def Ai(K:W.Frag)(ta:TA):TI:=fun σ H R=>ta σ H fun vs H1=>∃l1 l2 xs ys,vs=[.ref l1, .ref l2]∧SqL K H1 l1 xs∧SqL K H1 l2 ys∧R (Itz K l1 l2) H1
theorem kT{n l1 l2:Nat}(h1:l1<n)(h2:l2<n):ZipApart (n+4) (n+2) (n+3) n (n+1) l1 l2:=by
 constructor<;>first|exact Nat.ne_of_lt (by omega)|exact Nat.ne_of_gt (by omega)
theorem yW{X:Cx}{a b:Expr}{ta:TA}{p pos tpos:Pos}{elts:List Expr}{kk:Nat}(hg:Gl X "zip")(hm:X.mg "zip"=none)(ha:PA X [a,b] ta)(hs:starEach [a,b] X.env=[(false,eval a X.env),(false,eval b X.env)]:=by rfl)(hs2:starEach [b] X.env=[(false,eval b X.env)]:=by rfl):
 PI X (.Tuple elts kk tpos) (.Call (.Name "zip" p) [a,b] [] pos) (Ai X.K ta):=by
 intro pins s σ H R I h
 refine Call_ (io I hg hm (show bootBuiltins "zip"=some (.type "zip") from by decide+kernel) (PyProof.Rows.callWith_type1 (thn (ha pos pins s σ H _ I h) fun us s1 ⟨vs,H1,I1,r1,q1⟩=> ?_) (by rw[hs,hs2]) (by rw[hs2];rfl)))
 obtain⟨l1,l2,xs,ys,e,q1,q2,q⟩:=q1
 subst e
 obtain⟨u1,u2,rfl,ru1,ru2⟩:=r1.two
 cases ru1
 cases ru2
 obtain⟨its1,v1,p1,z1⟩:=I1.list q1
 obtain⟨its2,v2,p2,z2⟩:=I1.list q2
 have b1:l1<s1.heap.objs.size:=by obtain⟨o,n,e,_⟩:=p1;exact Heap.lt_size e
 have b2:l2<s1.heap.objs.size:=by obtain⟨o,n,e,_⟩:=p2;exact Heap.lt_size e
 refine call_zip_2 p1.isList p2.isList fun h' hz hTI hTO h1 h2 sz hk=> ?_
 have D:=kT b1 b2
 refine wpAny_pyIter_zip hz ?_
 refine⟨_,_,xY _ _ _ _ _ _ _,_,H1,rfl,I1.kept (t':=s1.toks) hk,uK _ _ _ _ _ _ _ D,⟨hz,hTI,⟨_,_,hTO⟩,h1,h2⟩,fun b hb=> ?_,q⟩
 have hb':s1.heap.objs.size≤b:=by
  simp only[List.mem_cons,List.not_mem_nil,or_false] at hb
  rcases hb with rfl|rfl|rfl|rfl|rfl
  · exact Nat.le_add_right _ _
  · exact Nat.le_add_right _ _
  · exact Nat.le_add_right _ _
  · exact Nat.le_refl _
  · exact Nat.le_add_right _ _
 exact I1.fpOk hb' (I1.hok.fresh hb')
section
variable{X:Cx}
def Aj(K:W.Frag):R2:=fun x y H Q=>rI0 (fun i j=> .bl (decide (i=j))) x y H Q∨Ag K x y H Q∨rEq x y H Q∨wF K false x y H Q
theorem kU(hu:X.A.units+64<cLine):OpR X (compareOp .Eq) (Aj X.K):=yS.or ((yR (by omega)).or (zV.or (yU hu)))
def Ak(K:W.Frag):R2:=fun x y H Q=>rI0 (fun i j=> .bl (!decide (i=j))) x y H Q∨rNe x y H Q∨wF K true x y H Q
theorem uL(hu:X.A.units+64<cLine):OpR X (compareOp .NotEq) (Ak X.K):=yT.or (zW.or (yV hu))
end
theorem mL{α β:Type}{f:α→β→Sem (ForInStep β)}(g:β→α→β):∀(l:List α) (b:β),(∀x∈l,∀c,f x c=pure (.yield (g c x)))→forIn l b f=pure (l.foldl g b)
 |[],_,_=>rfl
 |x::l,b,h=>by
  rw[List.forIn_cons,h x List.mem_cons_self,pure_bind]
  exact mL g l (g b x) fun y hy=>h y (List.mem_cons_of_mem _ hy)
def jf(cells:List (Str×Addr))(cs:List (Str×Addr))(x:Str×NameKind):List (Str×Addr):=if(x.2==NameKind.free)=true then(x.1,(cells.lookup x.1).getD 0)::cs else cs
theorem sv{cells:List (Str×Addr)}:∀(names:List (Str×NameKind)) (cs:List (Str×Addr)),(∀x∈names,x.2=NameKind.free→∃c,cells.lookup x.1=some c)→(∀x c,cs.lookup x=some c→cells.lookup x=some c)→
 (∀x c,(names.foldl (jf cells) cs).lookup x=some c→cells.lookup x=some c)∧(∀x,((∃c,cs.lookup x=some c)∨(x,NameKind.free)∈names)→∃c,(names.foldl (jf cells) cs).lookup x=some c)
 |[],cs,_,h=>⟨h,fun x q=>by
  rcases q with q|q
  · exact q
  · cases q⟩
 |(n,k)::r,cs,hf,h=>by
  have step:∀x c,(jf cells cs (n,k)).lookup x=some c→cells.lookup x=some c:=fun x c e=>by
   unfold jf at e
   by_cases hk:((n,k).2==NameKind.free)=true
   · rw[if_pos hk] at e
     obtain⟨c0,hc0⟩:=hf (n,k) List.mem_cons_self (by simpa using hk)
     by_cases hx:x=n
     · subst hx
       rw[List.lookup_cons_self] at e
       rw[hc0] at e ⊢
       exact e
     · have:(x==n)=false:=by simpa using hx
       rw[List.lookup_cons,this] at e
       exact h x c e
   · rw[if_neg hk] at e
     exact h x c e
  obtain⟨a,b⟩:=sv r (jf cells cs (n,k)) (fun x hx=>hf x (List.mem_cons_of_mem _ hx)) step
  refine⟨a,fun x q=>b x ?_⟩
  rcases q with⟨c,q⟩|q
  · left
    unfold jf
    by_cases hk:((n,k).2==NameKind.free)=true
    · rw[if_pos hk]
      by_cases hx:x=n
      · subst hx;exact⟨_,List.lookup_cons_self⟩
      · have:(x==n)=false:=by simpa using hx
        exact⟨c,by rw[List.lookup_cons,this];exact q⟩
    · rw[if_neg hk];exact⟨c,q⟩
  · rcases List.mem_cons.mp q with q|q
    · left
      cases q
      unfold jf
      rw[if_pos (by rfl)]
      exact⟨_,List.lookup_cons_self⟩
    · exact .inr q
theorem mM{scope:Scope}{env:Env}(h:∀x∈scope.names,x.2=NameKind.free→∃c,env.cells.lookup x.1=some c):
 ∃cl,closureFor scope env=pure cl∧(∀x c,cl.lookup x=some c→env.cells.lookup x=some c)∧(∀x,(x,NameKind.free)∈scope.names→∃c,cl.lookup x=some c):=by
 obtain⟨a,b⟩:=sv (cells:=env.cells) scope.names [] h (fun x c e=>by simp at e)
 refine⟨_, ?_,a,fun x q=>b x (.inr q)⟩
 simp only[closureFor]
 rw[mL (jf env.cells) _ _ (fun x hx c=>by
  obtain⟨n,kind⟩:=x
  unfold jf
  cases hk:(kind==NameKind.free) with
  |false=>simp only[hk,Bool.false_eq_true,if_false]
  |true=>
   obtain⟨c0,hc0⟩:=h (n,kind) hx (by simpa using hk)
   simp only[hk,if_true,cellOf]
   rw[show List.lookup n env.cells=some c0 from hc0]
   rfl)]
 rfl
def cv(X:Cx)(scope:Scope)(N:List Str)(cl:List (Str×Addr))(C:Addr)(s₀:Shared)(H₀:Hp)(ex:List Addr):Cx where
 prog:=X.prog
 w:=X.w
 K:=X.K
 mg:=X.mg
 base:=X.base
 A:=X.A
 N:=N
 s₀:=s₀
 H₀:=H₀
 env:=compEnvC scope cl C X.env
 outer:=X.stack
 stack:=X.stack
 ex:=ex
 fn:=fun _=>false
 calm:=X.calm
 pn:=[]
 xe:=fun _ _=>False
def rF(X:Cx)(ifs:List Expr)(t:TT):Prop:=∀(pins:List (Addr×Obj)) (s:Shared) (σ:St) (H:Hp) (Q:Bool→Hp→Prop),Inv X pins σ H s→t σ H Q→
 wpAny (model X.prog X.w) X.A (forIn ifs true fun c r=>if r=true then do let ok ←isTrue c X.env (eval c X.env);pure (ForInStep.yield ok) else pure (ForInStep.yield r)) (TP X pins σ Q) X.xe s
def Al:TT:=fun _ H Q=>Q true H
theorem dQ{X:Cx}:rF X [] Al:=fun _ _ _ H _ I h=>wpAny_tests_nil ⟨H,I,h⟩
theorem pj{X:Cx}{c:Expr}{t:TT}(h:PT X c t):rF X [c] t:=fun pins s σ H Q I q=>wpAny_tests_one (h pins s σ H Q I q)
def mN(cap:List Nat)(x:Option V)(σ:St):St:=x::cap.map fun i=>(σ[i]?).join
def uM(J:It)(tc:TT)(te:TE)(cap:List Nat)(σ:St)(Q:VK)(H1:Hp):Prop:=∀acc,H1 acc=none→∃W:Nat→Nat→Hp→Prop,(∃m,W 0 m (upd H1 acc (.lst [])))∧∀i m H,W i m H→
 (J.stop i H∧Q (.ref acc) H)∨(J.go i H∧∀x H',J.yld i H x H'→tc (mN cap (some x) σ) H' fun b H3=>if b=true then te (mN cap (some x) σ) H3 fun y H4=>∃ys,H4 acc=some (.lst ys)∧ys.length<sizeLine∧∃m',m'<m∧W (i+1) m' (upd H4 acc (.lst (ys++[y]))) else ∃m',m'<m∧W (i+1) m' H3)
def sw(wi:TI)(tc:TT)(te:TE)(cap:List Nat):TE:=fun σ H Q=>wi σ H fun J H1=>uM J tc te cap σ Q H1
theorem cR{env:Env}:∀{names:List (Str×NameKind)} {x:Str},names.lookup x=some .free→
 (names.map fun(n,k)=>if(k==NameKind.free&&env.scope.kind== .function&&env.kindOf n==some .cell) then(n,NameKind.cell) else(n,k)).lookup x=some .cell∨
 (names.map fun(n,k)=>if(k==NameKind.free&&env.scope.kind== .function&&env.kindOf n==some .cell) then(n,NameKind.cell) else(n,k)).lookup x=some .free
 |[],_,h=>by simp at h
 |(n,k)::r,x,h=>by
  have ih:=@cR env r x
  show List.lookup x ((if(k==NameKind.free&&env.scope.kind== .function&&env.kindOf n==some .cell)=true then(n,NameKind.cell) else(n,k))::_)=_∨
   List.lookup x ((if(k==NameKind.free&&env.scope.kind== .function&&env.kindOf n==some .cell)=true then(n,NameKind.cell) else(n,k))::_)=_
  cases hx:x==n with
  |true=>
   simp only[List.lookup_cons,hx] at h
   cases h
   by_cases hc:(NameKind.free==NameKind.free&&env.scope.kind== .function&&env.kindOf n==some .cell)=true
   · rw[if_pos hc];left;simp[List.lookup_cons,hx]
   · rw[if_neg hc];right;simp[List.lookup_cons,hx]
  |false=>
   simp only[List.lookup_cons,hx] at h
   by_cases hc:(k==NameKind.free&&env.scope.kind== .function&&env.kindOf n==some .cell)=true
   · rw[if_pos hc];simp only[List.lookup_cons,hx];exact ih h
   · rw[if_neg hc];simp only[List.lookup_cons,hx];exact ih h
theorem iu{env:Env}:∀{names:List (Str×NameKind)} {x:Str},(∀y∈names,y.2≠ .cell)→
 ((names.map fun(n,k)=>if(k==NameKind.free&&env.scope.kind== .function&&env.kindOf n==some .cell) then(n,NameKind.cell) else(n,k)).lookup x=some .cell∨
 (names.map fun(n,k)=>if(k==NameKind.free&&env.scope.kind== .function&&env.kindOf n==some .cell) then(n,NameKind.cell) else(n,k)).lookup x=some .free)→(x,NameKind.free)∈names
 |[],_,_,h=>by simp at h
 |(n,k)::r,x,hcell,h=>by
  have ih:=@iu env r x (fun y hy=>hcell y (List.mem_cons_of_mem _ hy))
  have hk:=hcell (n,k) List.mem_cons_self
  cases hx:x==n with
  |true=>
   have e:x=n:=by simpa using hx
   subst e
   by_cases hc:(k==NameKind.free&&env.scope.kind== .function&&env.kindOf x==some .cell)=true
   · have:k= .free:=by
      rw[Bool.and_eq_true,Bool.and_eq_true] at hc
      simpa using hc.1.1
     subst this
     exact List.mem_cons_self
   · have h':List.lookup x ((if(k==NameKind.free&&env.scope.kind== .function&&env.kindOf x==some .cell)=true then(x,NameKind.cell) else(x,k))::(r.map fun(n,k)=>if(k==NameKind.free&&env.scope.kind== .function&&env.kindOf n==some .cell) then(n,NameKind.cell) else(n,k)))=some .cell∨
      List.lookup x ((if(k==NameKind.free&&env.scope.kind== .function&&env.kindOf x==some .cell)=true then(x,NameKind.cell) else(x,k))::(r.map fun(n,k)=>if(k==NameKind.free&&env.scope.kind== .function&&env.kindOf n==some .cell) then(n,NameKind.cell) else(n,k)))=some .free:=h
     rw[if_neg hc,List.lookup_cons_self] at h'
     rcases h' with h'|h'
     · exact absurd (Option.some.inj h') hk
     · have:=Option.some.inj h'
       subst this
       exact List.mem_cons_self
  |false=>
   refine List.mem_cons_of_mem _ (ih ?_)
   have h':List.lookup x ((if(k==NameKind.free&&env.scope.kind== .function&&env.kindOf n==some .cell)=true then(n,NameKind.cell) else(n,k))::(r.map fun(n,k)=>if(k==NameKind.free&&env.scope.kind== .function&&env.kindOf n==some .cell) then(n,NameKind.cell) else(n,k)))=some .cell∨
    List.lookup x ((if(k==NameKind.free&&env.scope.kind== .function&&env.kindOf n==some .cell)=true then(n,NameKind.cell) else(n,k))::(r.map fun(n,k)=>if(k==NameKind.free&&env.scope.kind== .function&&env.kindOf n==some .cell) then(n,NameKind.cell) else(n,k)))=some .free:=h
   by_cases hc:(k==NameKind.free&&env.scope.kind== .function&&env.kindOf n==some .cell)=true
   · rw[if_pos hc] at h';simp only[List.lookup_cons,hx] at h';exact h'
   · rw[if_neg hc] at h';simp only[List.lookup_cons,hx] at h';exact h'
section
variable{X:Cx}{pins:List (Addr×Obj)}{σ:St}{H:Hp}{s:Shared}
structure CompScope(X:Cx)(scope:Scope)(x:Str)(cn:List Str)(cap:List Nat):Prop where
 kind:scope.kind= .function
 names:∀y∈scope.names,y.2= .local→scope.names.lookup y.1=some .local
 cell:∀y∈scope.names,y.2≠ .cell
 own:scope.names.lookup x=some .local
 free:∀y∈scope.names,y.2= .free→X.env.kindOf y.1=some .cell∨X.env.kindOf y.1=some .free
 cap:cap.map (fun i=>X.N[i]?)=cn.map some
 capf:∀y∈cn,scope.names.lookup y=some .free
 capo:∀y∈cn,X.env.scope.names.lookup y=some .cell∨X.env.scope.names.lookup y=some .free
 nd:(x::cn).Nodup
theorem wG{scope:Scope}{x:Str}{cn:List Str}{cap:List Nat}{cl:List (Str×Addr)}{C:Addr}{fp:List Addr}(S:CompScope X scope x cn cap)(I:Inv X pins σ H s)(hf:∀b∈fp,jU X pins H b)(hlt:∀b∈fp,b<s.heap.objs.size)
 (hc1:∀y c,cl.lookup y=some c→X.env.cells.lookup y=some c)(hc2:∀y,(y,NameKind.free)∈scope.names→∃c,cl.lookup y=some c)(hC:s.heap.objs.size≤C):(cv X scope (x::cn) cl C s H fp).Ok where
 mod:=I.ok.mod
 kind:=S.kind
 glob:=I.ok.glob
 blt:=I.ok.blt
 above:=hC
 inj:=fun y z c h1 h2=>I.ok.inj y z c (hc1 y c h1) (hc1 z c h2)
 has:=fun y h=>hc2 y (iu (env:=X.env) S.cell h)
 cab:=fun y c h=>by cases (show false=true from h)
 hd:=I.ok.hd
 frames:=I.ok.frames
 stk:= .inl rfl
 exf:=fun b hb=>⟨Nat.ne_of_lt (Nat.lt_of_lt_of_le (hlt b hb) hC),fun y c h=>(hf b hb).2.2.2.2.1 y c (hc1 y c h)⟩
 bs:=I.bs
 bsz:=Nat.le_trans I.ok.bsz I.sz
 noex:=fun b o e hb=>by
  rcases(hf b hb).2.2.2.1 with z|z
  · exact I.ok.noex b o e z
  · have h1:=Heap.lt_size e
    exact absurd (Nat.lt_of_lt_of_le h1 (Nat.le_trans I.ok.bsz z)) (Nat.lt_irrefl _)
 exfs:=fun b hb z=>by
  rcases List.mem_cons.mp (I.stkSub b z) with q|q
  · exact(hf b hb).2.1 q
  · exact(hf b hb).2.2.1 q
 funs:=I.stack
 frf:=I.stkFree
theorem sx{α β:Type}{l:List α}{f:α→Option β}{m:List β}(h:l.map f=m.map some):∀{j:Nat} {y:β},m[j]? =some y→∃i,l[j]? =some i∧f i=some y:=by
 intro j y e
 have h2:=congrArg (fun z=>z[j]?) h
 simp only[List.getElem?_map] at h2
 rw[e] at h2
 cases q:l[j]? with
 |none=>rw[q] at h2;cases h2
 |some i=>
  rw[q] at h2
  exact⟨i,rfl,by simpa using h2⟩
theorem om{elt iter:Expr}{x:Str}{px:Pos}{ifs:List Expr}{scope:Scope}{pos:Pos}{wi:TI}{tc:TT}{te:TE}(cn:List Str)(cap:List Nat)(S:CompScope X scope x cn cap)(hc:X.calm=true)
 (hi:PI X (.Name x px) iter wi)(hin:∀cl C s₀ H₀ ex,rF (cv X scope (x::cn) cl C s₀ H₀ ex) ifs tc)(he:∀cl C s₀ H₀ ex,PE (cv X scope (x::cn) cl C s₀ H₀ ex) elt te)
 (hs:∀z,foldedSetIterable iter X.env z=pure z){use:Option (Value→Sem Unit)}{Q:VK}{Q':Value→Shared→Prop}{pins:List (Addr×Obj)}{s:Shared}{σ:St}{H:Hp}(I:Inv X pins σ H s)(h:sw wi tc te cap σ H Q)
 (fin:∀(d C:Addr) (H':Hp) (s':Shared) (m:_),Inv X pins σ H' s'→jU X pins H' C→s'.heap.Ns C m→Q (.ref d) H'→∀r,compPost (model X.prog X.w) X.A X.xe use Q' (.ref d) C (.ok r) s'):
 wpAny (model X.prog X.w) X.A (comprehension (.ListComp elt [⟨.Name x px,iter,ifs,0⟩] scope pos) scope X.env (firstIterPos [⟨.Name x px,iter,ifs,0⟩] pos) (newList []) false (firstIter [⟨.Name x px,iter,ifs,0⟩] X.env) use) Q' X.xe s:=by
 obtain⟨cl,hclos,hc1,hc2⟩:=mM (scope:=scope) (env:=X.env) fun y hy hk=>I.ok.has y.1 (S.free y hy hk)
 refine wpAny_comprehension_free (use:=use) rfl hs hclos S.kind S.names (thn (hi pins s σ H _ I h) fun v s1 h1=>thn h1 fun itv s2 h2=> ?_)
 obtain⟨it,fp,tn,J,H2,e,I2,T,st2,f2,q2⟩:=h2
 subst e
 have hlt:∀b∈fp,b<s2.heap.objs.size:=fun b hb=>by
  obtain⟨o,e,_⟩:=T.obj _ _ st2 b hb
  exact Heap.lt_size e
 refine wpAny_newObj_type (wpAny_newFunctionEnv S.cell (by intro y hy;simp at hy) (fun h₁ hns₁ hsb₁=> ?_) S.kind)
 dsimp only at hns₁ hsb₁ ⊢
 generalize hP:s2.heap.push {cls:= .type "list",dict:=none,data:= .seq ([]:List Value).toArray}=P2 at hns₁ hsb₁ ⊢
 have hC:P2.objs.size=s2.heap.objs.size+1:=by rw[←hP,Heap.size_push]
 have hDC:s2.heap.objs.size≠P2.objs.size:=by rw[hC];exact Nat.ne_of_lt (Nat.lt_succ_self _)
 have hCle:s2.heap.objs.size≤P2.objs.size:=by rw[hC];exact Nat.le_succ _
 have neC:∀b,b<s2.heap.objs.size→b≠P2.objs.size:=fun b hb=>by rw[hC];exact Nat.ne_of_lt (Nat.lt_succ_of_lt hb)
 have old:∀b o,s2.heap.get? b=some o→h₁.get? b=some o:=fun b o e=>hsb₁.extBut b o (neC b (Heap.lt_size e)) (Heap.get?_push_of_some _ (hP▸Heap.get?_push_of_some _ e))
 have hacc:h₁.get? s2.heap.objs.size=some {cls:= .type "list",dict:=none,data:= .seq ([]:List Value).toArray}:=hsb₁.extBut _ _ hDC (Heap.get?_push_of_some _ (hP▸Heap.get?_push_size _ rfl))
 have hD0:H2 s2.heap.objs.size=none:=I2.hok.fresh (Nat.le_refl _)
 have ok':(cv X scope (x::cn) cl P2.objs.size s2 H2 fp).Ok:=wG S I2 f2 hlt hc1 hc2 hCle
 obtain⟨W,⟨m0,w0⟩,turn⟩:=q2 _ hD0
 have hok1:HOk X.prog X.w (upd H2 s2.heap.objs.size (.lst [])) h₁:=I2.hok.laid old (Nat.le_refl _) ⟨Nat.zero_le _,[],_, .nil,hacc⟩
 have un1:Un (frs X.stack) fp H2 (upd H2 s2.heap.objs.size (.lst [])) s2.heap h₁:=Un.laid old (Nat.le_refl _) hD0
 have I4:∀tk,Inv (cv X scope (x::cn) cl P2.objs.size s2 H2 fp) [] (mN cap none σ) (upd H2 s2.heap.objs.size (.lst [])) {s2 with heap:=h₁,toks:=tk}:=fun tk=>by
  refine⟨ok',rfl,I2.bare,un1,⟨_,hns₁,fun i y v e1 e2 e3=> ?_⟩,fun y c e=> ?_, ?_,fun y c e=> ?_,fun p hp=>(nomatch hp),hok1, ?_⟩
  · cases i with
    |zero=>cases (show (none:Option V)=some v from Option.some.inj e2)
    |succ j=>
     have e1':cn[j]? =some y:=e1
     have ymem:y∈cn:=List.mem_of_getElem? e1'
     obtain⟨i0,ci,ni⟩:=sx S.cap e1'
     have e2':(cap.map fun i=>(σ[i]?).join)[j]? =some (some v):=e2
     rw[List.getElem?_map,ci] at e2'
     have e3':(σ[i0]?).join=some v:=Option.some.inj e2'
     have e4:σ[i0]? =some (some v):=by
      cases q:σ[i0]? with
      |none=>rw[q] at e3';cases e3'
      |some o=>rw[q] at e3';exact congrArg some e3'
     obtain⟨m,hn,hl⟩:=I2.loc
     have vis:Vis X.env.scope y:= .inr (S.capo y ymem)
     obtain⟨u,r,lk⟩:=hl i0 y v ni e4 vis
     refine⟨u,r, .inr ⟨cR (env:=X.env) (S.capf y ymem), ?_⟩⟩
     rcases lk with⟨kl,_⟩|⟨_,c,ec,hcell⟩
     · rcases S.capo y ymem with z|z
       · have kl':X.env.scope.names.lookup y=some .local:=kl
         rw[z] at kl';cases kl'
       · have kl':X.env.scope.names.lookup y=some .local:=kl
         rw[z] at kl';cases kl'
     · have fm:(y,NameKind.free)∈scope.names:=iu (env:=X.env) S.cell (cR (env:=X.env) (S.capf y ymem))
       obtain⟨c',ec'⟩:=hc2 y fm
       have:=hc1 y c' ec'
       rw[ec] at this
       cases this
       obtain⟨o,ho,hd⟩:=hcell
       exact⟨c,ec',o,old _ _ ho,hd⟩
  · obtain⟨v,o,ho,hd⟩:=I2.cell y c (hc1 y c e)
    exact⟨v,o,old _ _ ho,hd⟩
  · show (upd H2 s2.heap.objs.size (.lst [])) P2.objs.size=none
    rw[bO (Ne.symm hDC)]
    exact I2.hok.fresh hCle
  · obtain⟨v,o,ho,hd⟩:=I2.cell y c (hc1 y c e)
    rw[bO (Nat.ne_of_lt (Heap.lt_size ho))]
    exact I2.freeC y c (hc1 y c e)
  · show (mN cap none σ).length=(x::cn).length
    have:=congrArg List.length S.cap
    simp only[List.length_map] at this
    simp[mN,this]
 have stat:∀{H':Hp},(∀b∈fp,H' b=none)→∀b∈fp,jU (cv X scope (x::cn) cl P2.objs.size s2 H2 fp) [] H' b:=fun hn b hb=>
  ⟨hn b hb,neC b (hlt b hb),ok'.exfs b hb, .inl hb,fun y c e=>(ok'.exf b hb).2 y c e,fun p hp=>(nomatch hp)⟩
 have pgx:PG (cv X scope (x::cn) cl P2.objs.size s2 H2 fp) (.Name x px) (iq 0):=cz (i:=0) S.nd rfl (.inl (lookup_relabel_local (env:=X.env) S.own)) (.inr (lookup_relabel_local (env:=X.env) S.own))
 have loop:∀s₃:Shared,s₃={s2 with heap:=h₁,toks:=s2.toks+([]:List (Str×Value)).length}→
  codeAny (model X.prog X.w) X.A (.compLoop (.ListComp elt [⟨.Name x px,iter,ifs,0⟩] scope pos) 0 (.ref it) (.ref s2.heap.objs.size) (compEnvC scope cl P2.objs.size X.env))
   (compPost (model X.prog X.w) X.A X.xe use Q' (.ref s2.heap.objs.size) P2.objs.size) s₃:=by
  rintro s₃ rfl
  refine codeAny_loop rfl (fun n s'=>∃i H',Inv (cv X scope (x::cn) cl P2.objs.size s2 H2 fp) [] (mN cap none σ) H' s'∧tn i s'.heap∧(∀b∈fp,H' b=none)∧W i n H') ?_ m0
   ⟨0,_,I4 _,T.keep _ _ _ st2 fun b hb o e=>old b o e,fun b hb=>by rw[bO (Nat.ne_of_lt (hlt b hb))];exact(f2 b hb).1,w0⟩
  rintro n s3 ⟨i,H3,I3,st3,fr3,w3⟩
  show wpAny _ X.A ((compTurn (.ListComp elt [⟨.Name x px,iter,ifs,0⟩] scope pos) 0 (.ref it) (.ref s2.heap.objs.size) (compEnvC scope cl P2.objs.size X.env)).onRaise (fun x=>do noteFrame x (compEnvC scope cl P2.objs.size X.env);theTreesLotGoes x)) _ _ s3
  refine wpAny_noted ?_
  rw[compTurn_list]
  refine wpAny_bind (wpAny_standAt (wpAny_bind ?_))
  rcases turn i n H3 w3 with⟨stop,qn⟩|⟨go,step⟩
  · refine wpAny_mono (T.done (cv X scope (x::cn) cl P2.objs.size s2 H2 fp) rfl rfl rfl hc i [] s3 _ H3 (fun _ _=>False) I3 (stat fr3) st3 stop) (fun r s4 ⟨hr,I5⟩=> ?_) fun _ _ z=>z.elim
    subst hr
    refine wpAny_pure ?_
    obtain⟨m,hn,_⟩:=id I5.loc
    have J:Inv X pins σ H3 s4:=by
     have kp:∀b o,b≠P2.objs.size→s4.heap.get? b=some o→s4.heap.get? b=some o:=fun b o hb e=>e
     have b0:=I5.base
     have sm:∀b o,s2.heap.get? b=some o→b≠P2.objs.size:=fun b o e=>neC b (Heap.lt_size e)
     refine I2.call' (s':=s4) (ch:=fp) I5.os ⟨fun b o e n hb hx=>kp _ _ (sm b o e) (b0.keep b o e n hb hx),fun b o e n hb hx=> ?_,b0.free,fun b o e hx=> ?_,b0.tups,b0.frzs,b0.tbls⟩ (fun b u e=> ?_) I5.bare
      fun b hb=>⟨(f2 b hb).2.2.2.1,(f2 b hb).2.1,(f2 b hb).2.2.2.2.1,(f2 b hb).2.2.2.2.2⟩
     · obtain⟨sl,q⟩:=b0.slot b o e n hb hx
       exact⟨sl,kp _ _ (sm b o e) q⟩
     · obtain⟨o',q⟩:=b0.there b o e hx
       exact⟨o',kp _ _ (sm b o e) q⟩
     · have hfree:H3 P2.objs.size=none:=I5.free
       refine(I5.hok b u e).stay (fun c v hc' q=>kp c v ?_ q) (fun _ q=>q) fun _ _ q=>q
       rcases hc' with z|z
       · rw[z];exact bL e hfree
       · exact bL z hfree
    have fC:jU X pins H3 P2.objs.size:=by
     have q:=I2.fpOk hCle (I2.hok.fresh hCle)
     exact⟨I5.free,q.2⟩
    exact fin _ _ _ _ m J fC hn qn _
  · refine wpAny_mono (T.item (cv X scope (x::cn) cl P2.objs.size s2 H2 fp) rfl rfl rfl hc i [] s3 _ H3 (fun _ _=>False) I3 (stat fr3) st3 go) (fun r s4 ⟨u,hr,h4⟩=> ?_) fun _ _ z=>z.elim
    subst hr
    refine wpAny_bind (wpAny_mono h4 (fun _ s5 ⟨xv,H5,I5,r5,y5,st5,fr5⟩=> ?_) fun _ _ z=>z.elim)
    have I5':=I5.pinned (stat fr5) (T.obj _ _ st5)
    refine wpAny_bind (wpAny_mono (pgx _ s5 _ H5 xv u (fun σ6 H6=>σ6=mN cap (some xv) σ∧H6=H5) I5' r5 ⟨rfl,rfl⟩) (fun _ s6 ⟨σ6,H6,I6,e6,e6'⟩=> ?_) fun _ _ z=>z.elim)
    subst e6 e6'
    have again:∀{s7:Shared} {H7:Hp},Inv (cv X scope (x::cn) cl P2.objs.size s2 H2 fp) ([]++kN fp s5.heap) (mN cap (some xv) σ) H7 s7→(∃m',m'<n∧W (i+1) m' H7)→
     ∃m,m<n∧∃i H',Inv (cv X scope (x::cn) cl P2.objs.size s2 H2 fp) [] (mN cap none σ) H' s7∧tn i s7.heap∧(∀b∈fp,H' b=none)∧W i m H':=fun {s7 H7} I7 w7=>by
     obtain⟨m',hm,w7⟩:=w7
     refine⟨m',hm,i+1,H7,I7.unpinned.weak rfl fun j v ev=> ?_,T.keep _ _ _ st5 fun b hb o e=>(I7.pin (b,o) (List.mem_append_right _ (List.mem_append_right _ (gx hb e)))).1,fun b hb=> ?_,w7⟩
     · cases j with
       |zero=>cases (show (none:Option V)=some v from Option.some.inj ev)
       |succ j=>exact ev
     · obtain⟨o,e,d⟩:=T.obj _ _ st5 b hb
       exact(I7.pin (b,o) (List.mem_append_right _ (List.mem_append_right _ (gx hb e)))).2.1
    refine wpAny_bind (wpAny_mono (hin cl P2.objs.size s2 H2 fp _ s6 _ _ _ I6 (step xv _ y5)) (fun ok s7 ⟨H7,I7,q7⟩=> ?_) fun _ _ z=>z.elim)
    cases ok with
    |false=>
     have q7':∃m',m'<n∧W (i+1) m' H7:=by simpa using q7
     exact wpAny_pure ⟨rfl,again I7 q7'⟩
    |true=>
     have q7':=(if_pos rfl).mp q7
     refine wpAny_bind (wpAny_bind (wpAny_mono (he cl P2.objs.size s2 H2 fp _ s7 _ H7 _ I7 q7') (fun yv s8 ⟨y,H8,I8,r8,ys,h8,z8,q8⟩=> ?_) fun _ _ z=>z.elim))
     refine wpAny_bind (wpAny_mono (cZ (X:=cv X scope (x::cn) cl P2.objs.size s2 H2 fp) _ s8 _ H8 (.ref s2.heap.objs.size) [y] (.ref s2.heap.objs.size) [yv] (fun _ H9=>∃m',m'<n∧W (i+1) m' H9) I8 rfl (.cons r8 .nil) ⟨_,ys,y,rfl,rfl,h8,z8,q8⟩) (fun _ s9 ⟨_,H9,I9,_,q9⟩=> ?_) fun _ _ z=>z.elim)
     exact wpAny_pure (wpAny_pure ⟨rfl,again I9 q9⟩)
 exact codeAny_compStart_list (loop _ rfl) (T.self _ 0 _ _ _ (T.keep _ _ _ st2 fun b hb o e=>old b o e) (loop _ rfl))
theorem dH{elt iter:Expr}{x:Str}{px:Pos}{ifs:List Expr}{scope:Scope}{pos:Pos}{wi:TI}{tc:TT}{te:TE}(cn:List Str)(cap:List Nat)(S:CompScope X scope x cn cap)(hc:X.calm=true)
 (hi:PI X (.Name x px) iter wi)(hin:∀cl C s₀ H₀ ex,rF (cv X scope (x::cn) cl C s₀ H₀ ex) ifs tc)(he:∀cl C s₀ H₀ ex,PE (cv X scope (x::cn) cl C s₀ H₀ ex) elt te)
 (hs:∀z,foldedSetIterable iter X.env z=pure z:=by intro _;rfl):PE X (.ListComp elt [⟨.Name x px,iter,ifs,0⟩] scope pos) (sw wi tc te cap):=by
 intro pins s σ H Q I h
 rw[eval_ListComp]
 refine om cn cap S hc hi hin he hs I h fun d C H' s' m J fC hn qn r=>⟨m,hn,fun h' hsb=>⟨.ref d,H', ?_,rfl,qn⟩⟩
 refine J.turnedL (t':=s'.toks) (ch:=[C]) (fun b o hb e=>hsb.extBut b o (by simpa using hb) e) (fun b hb=> ?_)
 cases List.mem_singleton.mp hb
 exact fC
end
section
variable{X:Cx}
def Am:V→Option Int→Option Int→Hp→VK→Prop:=fun x lo hi H Q=>∃z,x= .str z∧z.length≤sizeLine∧Q (.str (Txt.slice z lo hi)) H
theorem yX:SlR X Am:=by
 intro pins s σ H x v vl vu lo hi sl Q I rx hs pl pu h
 obtain⟨z,rfl,hz,q⟩:=h
 obtain⟨t,rfl⟩:=rx
 refine⟨"str",_,F.slot_str_getitem.lookup,typeIs_str _ _ _, ?_⟩
 cases pl with
 |none=>
  cases pu with
  |none=>exact wpAny_getItem_str_slice (l:=none) (u:=none) (st:=none) hs rfl (post_val_or_str ⟨Nat.le_trans (Txt.slice_le z _ _) hz,fun t' k=>⟨.str _,H,I.tok k,⟨_,rfl⟩,q⟩⟩)
  |int j uj=>exact wpAny_getItem_str_slice (l:=none) (u:=some (j,uj)) (st:=none) hs rfl (post_val_or_str ⟨Nat.le_trans (Txt.slice_le z _ _) hz,fun t' k=>⟨.str _,H,I.tok k,⟨_,rfl⟩,q⟩⟩)
 |int i ui=>
  cases pu with
  |none=>exact wpAny_getItem_str_slice (l:=some (i,ui)) (u:=none) (st:=none) hs rfl (post_val_or_str ⟨Nat.le_trans (Txt.slice_le z _ _) hz,fun t' k=>⟨.str _,H,I.tok k,⟨_,rfl⟩,q⟩⟩)
  |int j uj=>exact wpAny_getItem_str_slice (l:=some (i,ui)) (u:=some (j,uj)) (st:=none) hs rfl (post_val_or_str ⟨Nat.le_trans (Txt.slice_le z _ _) hz,fun t' k=>⟨.str _,H,I.tok k,⟨_,rfl⟩,q⟩⟩)
def yY(K:W.Frag):V→Option Int→Option Int→Hp→VK→Prop:=fun x lo hi H Q=>Ac K x lo hi H Q∨zZ K x lo hi H Q∨Am x lo hi H Q
theorem slX:SlR X (yY X.K):=wB.or (yJ.or yX)
def xZ:R2:=fun x y H Q=>∃a n,x= .str a∧y= .int n∧a.length≤16∧0≤n∧n≤1000000∧Q (.str (Txt.mul a n)) H
theorem wH:OpR X (binaryOp .Mult) xZ:=by
 intro pins s σ H x y v u Q I rx ry h
 obtain⟨a,n,rfl,rfl,h1,h2,h3,q⟩:=h
 obtain⟨t,rfl⟩:=rx
 obtain⟨t',rfl⟩:=ry
 exact SB.mul (mulOk_of 16 1048576 h1 (by omega) (by omega) (by decide) (by decide)) fun t' k=>⟨.str _,H,I.tok _,⟨_,rfl⟩,q⟩
def x5:R2:=fun x y H Q=>rI IntMulOk (fun i j=> .int (i*j)) x y H Q∨Ae x y H Q∨xZ x y H Q
theorem jQ:OpR X (binaryOp .Mult) x5:=wD.or (yO.or wH)
theorem mO:∀bs:List Bool,(List.range bs.length).all (fun i=>(bs[i]?).getD true)=bs.all id
 |[]=>rfl
 |b::bs=>by
  rw[List.length_cons,List.range_succ_eq_map,List.all_cons,List.all_map,List.all_cons]
  have:=mO bs
  simp only[Function.comp_def,List.getElem?_cons_succ] at*
  rw[this]
  rfl
theorem gI(hc:X.calm=true):CallR X (.builtin "all") (fun xs H Q=>∃(l:Addr) (bs:List Bool),xs=[.ref l]∧SqL X.K H l (bs.map V.bl)∧Q (.bl (bs.all id)) H):=by
 intro pins s σ H xs us Q I r h
 obtain⟨l,bs,rfl,hS,q⟩:=h
 obtain⟨u,rfl,ru⟩:=r.one
 cases ru
 obtain⟨its,rv,pl,hz⟩:=I.list hS
 have hl:=rv.length
 rw[List.length_map] at hl
 have hlt:l<s.heap.objs.size:=by obtain⟨o,n,e,_⟩:=pl;exact Heap.lt_size e
 refine call_all_walk (wpAny_pyIter_list pl.isList ?_)
 refine⟨s.heap.objs.size,[s.heap.objs.size,l],[s.heap.objs.size],its.toArray.size,_,_,fun i=>(bs[i]?).getD true,rfl,Walks.list (A:=X.A.in1) (I.ok.hd hc) _ l (Nat.ne_of_lt hlt) its.toArray,
  ⟨⟨_,Heap.get?_push_size _ rfl,rfl,rfl⟩,pl.isList.push _⟩,fun i v s' Q' E' hP hQ=> ?_,fun h' tk hk=> ?_⟩
 · have hP':its[i]? =some v:=by simpa using hP
   have hi:i<its.length:=(List.getElem?_eq_some_iff.mp hP').1
   obtain⟨u,e1,e2⟩:=rv.get (i:=i) (x:= .bl bs[i]) (by rw[List.getElem?_map,List.getElem?_eq_getElem (by omega)];rfl)
   rw[hP'] at e1
   cases e1
   cases e2
   have e3:bs[i]? =some bs[i]:=List.getElem?_eq_getElem (by omega)
   simp only[e3,Option.getD_some] at hQ
   exact wpAny_truthy_bool hQ
 · have e:((List.range its.toArray.size).all fun i=>(bs[i]?).getD true)=bs.all id:=by
    rw[List.size_toArray,←hl];exact mO bs
   rw[e]
   have kp:∀b x,s.heap.get? b=some x→h'.get? b=some x:=fun b x e=>hk b x (fun hm=>by rw[List.mem_singleton.mp hm] at e;exact Nat.lt_irrefl _ (Heap.lt_size e)) (Heap.get?_push_of_some _ e)
   exact⟨.bl _,H,I.kept kp,rfl,q⟩
def Its(z:Str):It:=⟨fun i _=>i<z.cps.size,fun i H x H'=>H'=H∧∃c,z.cps.toList[i]? =some c∧x= .str ⟨#[c]⟩,fun i _=>i=z.cps.size⟩
theorem uN{P:Program}{w:World}{K:PySem.W.Frag}{tg:Expr}{T:String}{z:Str}{t:Tok}(it:Addr)(hT:["enumerate","zip","dict_itemiterator","dict_reverseitemiterator","odict_iterator","itertools.zip_longest","itertools.pairwise"].contains T=false)
 (W:∀A:Around,A.handled=none→Walks P w A it [it] [it] z.cps.size (SignAt z) (fun i h=>h.IsStrIter it T z t i))(W0:∀(A:Around) (i:Nat) (s:Shared) (Q:Value→Shared→Prop) (E:Value→Shared→Prop),s.heap.IsStrIter it T z t i→Q (.ref it) s→wpAny (model P w) A (pyIter (.ref it)) Q E s):
 Turn P w K tg (Its z) [it] it (fun i h=>h.IsStrIter it T z t i) where
 mem:=by simp
 obj:=fun i h st b hb=>by
  have e:b=it:=by simpa using hb
  subst e
  obtain⟨o,e,c,d⟩:=st
  exact⟨o,e,fun v q=>by rw[d] at q;cases q⟩
 keep:=fun i h h' st k=>by
  obtain⟨o,e,c,d⟩:=st
  exact⟨o,k it (by simp) o e,c,d⟩
 item:=by
  intro X hP hw hK hc i pins s σ H E I hf st hg
  subst hP hw hK
  obtain⟨f0,f1,f2,f3,f4,f5⟩:=hf it (by simp)
  refine(W X.A (I.ok.hd hc)).item i s _ _ hg st fun v h' tk hv st' kk=> ?_
  obtain⟨c,u,hc',rfl⟩:=hv
  have I1:Inv X pins σ H {s with heap:=h',toks:=tk}:=I.turned (fun b o hb e=>kk b o (by simpa using hb) e) f0 f1 f3 f4 f5
  obtain⟨o,e,hcl,hd⟩:=id st'
  refine⟨_,rfl,sd (s:={s with heap:=h',toks:=tk}) e hcl hd hT ⟨.str ⟨#[c]⟩,H,I1,⟨u,rfl⟩,⟨rfl,c, ?_,rfl⟩,st',fun b hb=>(hf b hb).1⟩⟩
  rw[←hc'];simp
 done:=by
  intro X hP hw hK hc i pins s σ H E I hf st hg
  subst hP hw hK
  obtain⟨f0,f1,f2,f3,f4,f5⟩:=hf it (by simp)
  have hg':i=z.cps.size:=hg
  subst hg'
  exact(W X.A (I.ok.hd hc)).done s _ _ st fun h' tk hk=>⟨rfl,I.turned (fun b o hb e=>hk b o (by simpa using hb) e) f0 f1 f3 f4 f5⟩
 self:=fun A i s Q E st h=>W0 A i s Q E st h
def yZ(te:TE):TI:=fun σ H R=>te σ H fun x H1=>∃z,x= .str z∧R (Its z) H1
theorem cV{tg e:Expr}{te:TE}(he:PE X e te):PI X tg e (yZ te):=by
 intro pins s σ H R I h
 refine thn (he pins s σ H _ I h) fun v s1 ⟨x,H1,I1,r1,z,ez,q⟩=> ?_
 subst ez
 obtain⟨t,rfl⟩:=r1
 have fin:∀(T:String),(["enumerate","zip","dict_itemiterator","dict_reverseitemiterator","odict_iterator","itertools.zip_longest","itertools.pairwise"].contains T=false)→
  (∀A:Around,A.handled=none→Walks X.prog X.w A s1.heap.objs.size [s1.heap.objs.size] [s1.heap.objs.size] z.cps.size (SignAt z) (fun i h=>h.IsStrIter s1.heap.objs.size T z t i))→
  (∀(A:Around) (i:Nat) (s:Shared) (Q:Value→Shared→Prop) (E:Value→Shared→Prop),s.heap.IsStrIter s1.heap.objs.size T z t i→Q (.ref s1.heap.objs.size) s→wpAny (model X.prog X.w) A (pyIter (.ref s1.heap.objs.size)) Q E s)→
  PIE X pins σ tg R (.ref s1.heap.objs.size) {s1 with heap:=s1.heap.push {cls:= .type T,data:= .fields #[.str z t, .int 0 0]}}:=fun T hT W W0=>by
  refine⟨s1.heap.objs.size,[s1.heap.objs.size],_,Its z,H1,rfl,I1.kept (t':=s1.toks) fun b o e=>Heap.get?_push_of_some _ e,uN s1.heap.objs.size hT W W0,⟨_,Heap.get?_push_size _ rfl,rfl,rfl⟩,fun b hb=> ?_,q⟩
  have e:b=s1.heap.objs.size:=by simpa using hb
  subst e
  exact I1.fpOk (Nat.le_refl _) (I1.hok.fresh (Nat.le_refl _))
 cases ha:z.cps.all (· <128)
 · exact wpAny_pyIter_wide ha (fin "str_iterator" (by decide) (fun A hA=>Walks.strWide hA _ z t) fun A i s Q E st h=>wpAny_pyIter_striter_wide st h)
 · exact wpAny_pyIter_ascii ha (fin "str_ascii_iterator" (by decide) (fun A hA=>Walks.strAscii hA _ z t) fun A i s Q E st h=>wpAny_pyIter_striter_ascii st h)
theorem cr{tg e:Expr}{wi wi':TI}(h:PI X tg e wi)(h':PI X tg e wi'):PI X tg e (fun σ H R=>wi σ H R∨wi' σ H R):=by
 intro pins s σ H R I q
 rcases q with q|q
 · exact h pins s σ H R I q
 · exact h' pins s σ H R I q
end
section
variable{P:Program}{w:World}{K:W.Frag}{mg:Str→Option Value}{base:Heap}
end
section
variable{X:Cx}{k n:Nat}{x:Str}{ps:List Str}{sp:Sp}{p pos:Pos}{e:Expr}{es:List Expr}{t:TA}{dvs:List V}
structure CompC(fsc:Scope)(N:List Str)(scope:Scope)(x:Str)(cn:List Str)(cap:List Nat):Prop where
 kind:scope.kind= .function
 names:∀y∈scope.names,y.2= .local→scope.names.lookup y.1=some .local
 cell:∀y∈scope.names,y.2≠ .cell
 own:scope.names.lookup x=some .local
 free:∀y∈scope.names,y.2= .free→fsc.names.lookup y.1=some .cell∨fsc.names.lookup y.1=some .free
 cap:cap.map (fun i=>N[i]?)=cn.map some
 capf:∀y∈cn,scope.names.lookup y=some .free
 capo:∀y∈cn,fsc.names.lookup y=some .cell∨fsc.names.lookup y=some .free
 nd:(x::cn).Nodup
theorem CompC.to{fsc:Scope}{N:List Str}{scope:Scope}{cn:List Str}{cap:List Nat}(c:CompC fsc N scope x cn cap)(e1:X.env.scope=fsc)(e2:X.N=N):CompScope X scope x cn cap:=by
 subst e1 e2
 exact⟨c.kind,c.names,c.cell,c.own,c.free,c.cap,c.capf,c.capo,c.nd⟩
end
section
variable{X:Cx}{K:W.Frag}
theorem gJ(h:X.K=K):IxR X (rIx K):=by
 subst h;exact cB
theorem wI(h:X.K=K):SlR X (yY K):=by
 subst h;exact slX
end
theorem sy:bootBuiltins "all"=some (.builtin "all"):=by decide+kernel
end L2
namespace Tx
open PySem
abbrev cs(x:Str):List Nat:=x.cps.toList
theorem ext{x y:Str}(h:cs x=cs y):x=y:=PyProof.Rows.ext_toList h
def dig(c:Nat):Bool:=decide (48≤c)&&decide (c≤57)
def low(c:Nat):Bool:=decide (97≤c)&&decide (c≤122)
def val(l:List Nat):Int:=l.foldl (fun(v:Int) (c:Nat)=>v*10+((c:Int)-48)) 0
def y0:List Nat→Option Int
 |[]=>none
 |c::r=>if(c::r).length≤60∧(c::r).all dig=true∧(r=[]∨c≠48) then some (val (c::r)) else none
def row(p:Nat→Bool)(m:Int)(x:Str):Bool:=decide (1≤x.length)&&decide ((x.length:Int)≤m)&&(cs x).all p
end Tx
namespace Tx
open PySem
def rd(neg:Bool)(b:List Nat)(o:Option (List Nat×List Nat)):Option (Int×Int):=match o with
 |none=>match y0 b with
  |none=>none
  |some a=>if neg=true∧a=0 then none else some ((if neg then-a else a),1)
 |some (A,B)=>match y0 A,y0 B with
  |some a,some d=>if d<2∨(neg=true∧a=0)∨Fr.G a d≠1 then none else some ((if neg then-a else a),d)
  |_,_=>none
end Tx
namespace L2
open PySem PySem.Spec PyProof.Rows
section
variable{X:Cx}
end
section
variable{prog:Program}{w:World}{A:Around}{E:Value→Shared→Prop}{s:Shared}{it l:Addr}{its:Array Value}
end
section
variable{X:Cx}
abbrev An:R2:=rI0 fun i j=> .int (i-j)
abbrev Ao:R2:=rI zS fun i j=> .int (i/j)
abbrev AX:R2:=rI (fun _ j=>0<j) fun i j=> .int (i%j)
abbrev rLt:R2:=rI0 fun i j=> .bl (decide (i<j))
abbrev rLe:R2:=rI0 fun i j=> .bl (decide (i≤j))
abbrev rGt:R2:=rI0 fun i j=> .bl (decide (j<i))
abbrev AY:V→Hp→VK→Prop:=rU fun i=> .int (-i)
abbrev AZ(K:W.Frag):List V→Hp→VK→Prop:=fun xs H Q=>(∃p ys,xs=[.ref p]∧(SqL K H p ys∨SqT K H p ys)∧Q (.int ys.length) H)∨∃z,xs=[.str z]∧z.length≤sizeLine∧Q (.int z.length) H
abbrev A0(K:W.Frag):List V→Hp→VK→Prop:=fun xs H Q=>∃x T t k,xs=[x, .ty T]∧TyOf K H x t∧W.kitOne K t (.type T)=some k∧Q (.bl k) H
abbrev Ap:List V→Hp→VK→Prop:=fun xs H Q=>∃i j,xs=[.int i, .int j]∧Q (.int (if j>i then j else i)) H
abbrev Aq:List V→Hp→VK→Prop:=fun xs H Q=>∃i j,xs=[.int i, .int j]∧Q (.int (if j<i then j else i)) H
abbrev A3(K:W.Frag):List V→Hp→VK→Prop:=fun xs H Q=>∃(l:Addr) (bs:List Bool),xs=[.ref l]∧SqL K H l (bs.map V.bl)∧Q (.bl (bs.all id)) H
abbrev wJ(K:W.Frag):List V→Hp→VK→Prop:=fun xs H Q=>∃p ys,xs=[.ref p]∧(SqL K H p ys∨SqT K H p ys)∧∀l,H l=none→Q (.ref l) (upd H l (.lst ys))
end
section
variable{prog:Program}{w:World}{A:Around}{E:Value→Shared→Prop}{s:Shared}{K:W.Frag}{x C:Addr}{ox:Obj}{od:Option Obj}{name:Str}
end
section
variable{X:Cx}{pins:List (Addr×Obj)}{σ:St}{H:Hp}{s:Shared}{e C dx:Addr}{d:Option Addr}{fs:List (Str×V)}{f:Str}
end
section
variable{prog:Program}{w:World}{A:Around}{E:Value→Shared→Prop}{s:Shared}{K:W.Frag}{x C:Addr}{d:Option Addr}{vs:Array Value}{sl:Array (Option Value)}
end
section
variable{prog:Program}{w:World}{M:Model}{A:Around}{E:Value→Shared→Prop}{R:Result→Shared→Prop}{h:Heap}{g:Array GenState}{d:Drawn}{t:Nat}{os:OsState}{K:W.Frag}
variable{nm q:Str}{C N:Addr}{bs bm:List Value}{hdct:Bool}{sn:List Str}{sub:List Value}{ab:Bool}{col:Option Bool}{dd:Option Addr}{k0 k1 k2 k3 k5:Option Value}{gU:List Value}
end
section
variable{X:Cx}{CX:CXT}{k:Nat}{f C:Addr}{fd:FuncData}{ps:List Str}{sp:Sp}{dvs:List V}{ds:List Value}{E:XK}{x:Str}{p pos:Pos}{e:Expr}{es:List Expr}{t:TA}
end
section
variable{prog:Program}{w:World}{A:Around}{E:Value→Shared→Prop}{s:Shared}{K:W.Frag}{x C:Addr}{ox:Obj}{od:Option Obj}{name:Str}
end
section
variable{X:Cx}
end
section
variable{prog:Program}{w:World}{A:Around}{E:Value→Shared→Prop}{h:Heap}{g:Array GenState}{d:Drawn}{t:Nat}{os:OsState}{K:W.Frag}
variable{nm q:Str}{C N:Addr}{bs bm:List Value}{hdct:Bool}{sn:List Str}{sub:List Value}{ab:Bool}{col:Option Bool}{dd:Option Addr}{k0 k1 k2 k3 k5:Option Value}{v:Value}
end
def Ite(K:W.Frag)(l:Addr):It:=
 ⟨fun i H=>∃xs,SqL K H l xs∧i<xs.length,
  fun i H x H'=>∃T a,H T=none∧x= .ref T∧H'=upd H T (.tup [.int i,a])∧∀xs,SqL K H l xs→xs[i]? =some a,
  fun i H=>∃xs,SqL K H l xs∧xs.length≤i⟩
def Ar(e it l:Addr)(i:Nat)(h:Heap):Prop:=(∃old,IsEnum h e it i old)∧h.IsListIter it l i
theorem tW{P:Program}{w:World}{K:W.Frag}{elts:List Expr}{kk:Nat}{tpos:Pos}(e it l:Addr)(hei:e≠it):Turn P w K (.Tuple elts kk tpos) (Ite K l) [e,it] e (Ar e it l) where
 mem:=by simp
 obj:=fun i h st b hb=>by
  obtain⟨⟨old,he⟩,o1,e1,_,d1⟩:=st
  simp only[List.mem_cons,List.not_mem_nil,or_false] at hb
  rcases hb with rfl|rfl
  · exact⟨_,he,fun v q=>by cases (show Data.fields _=Data.cell v from q)⟩
  · exact⟨_,e1,fun v q=>by rw[d1] at q;cases q⟩
 keep:=fun i h h' st k=>by
  obtain⟨⟨old,he⟩,h1⟩:=st
  exact⟨⟨old,k e (by simp) _ he⟩,h1.at fun o z=>k it (by simp) o z⟩
 item:=by
  intro X hP hw hK hc i pins s σ H E I hf st hg
  subst hP hw hK
  obtain⟨xs,q1,g1⟩:=hg
  obtain⟨its1,r1,p1,z1⟩:=I.list q1
  obtain⟨u1,e1,ru1⟩:=r1.get (List.getElem?_eq_getElem g1)
  obtain⟨⟨old,he⟩,h1⟩:=st
  refine wpAny_pyNext_enum_item he h1 p1.isList (x:=u1) (by simpa using e1) hei fun h1' a1 a2 a3 a4 hk=>⟨_,rfl, ?_⟩
  refine wpAny_letOwnedTupleGo_enum a1 fun h2' hz' hs'=> ?_
  have lt:∀{c o},s.heap.get? c=some o→s.heap.objs.size≠c:=fun e=>Nat.ne_of_gt (Heap.lt_size e)
  have Te:s.heap.objs.size≠e:=lt he
  have kz:∀b o,b≠e→h1'.get? b=some o→h2'.get? b=some o:=fun b o hb q=>hs'.extBut _ _ hb q
  have I':Inv X pins σ (upd H s.heap.objs.size (.tup [.int i,xs[i]])) {s with heap:=h2',toks:=s.toks+1}:=by
   refine I.turnedNew (t':=s.toks+1) (ch:=[e,it]) (fun b o hb q=> ?_) hf (Nat.le_refl _) ?_
   · simp only[List.mem_cons,List.not_mem_nil,or_false,not_or] at hb
     exact kz b o hb.1 (hk b o hb.1 hb.2 q)
   · exact⟨(by show 2≤sizeLine;decide),[.int i s.toks,u1], .cons ⟨_,rfl⟩ (.cons ru1 .nil),_,kz _ _ Te a3,rfl,_,rfl⟩
  refine⟨.ref s.heap.objs.size,_,I',rfl,⟨s.heap.objs.size,xs[i],I.hok.fresh (Nat.le_refl _),rfl,rfl,fun xs' q'=> ?_⟩,⟨⟨_,by simpa using hz'⟩,a2.at fun o q=>kz _ _ hei.symm q⟩,fun b hb=> ?_⟩
  · rw[I.list_inj q' q1];exact List.getElem?_eq_getElem g1
  · have n:=(hf b hb).1
    simp only[List.mem_cons,List.not_mem_nil,or_false] at hb
    have ob:∃o,s.heap.get? b=some o:=by
     obtain⟨o1,x1,_⟩:=h1
     rcases hb with rfl|rfl
     · exact⟨_,he⟩
     · exact⟨_,x1⟩
    obtain⟨o,eo⟩:=ob
    rw[bO (Ne.symm (lt eo))]
    exact n
 done:=by
  intro X hP hw hK hc i pins s σ H E I hf st hg
  subst hP hw hK
  obtain⟨xs,q1,g⟩:=hg
  obtain⟨its1,r1,p1,z1⟩:=I.list q1
  obtain⟨⟨old,he⟩,h1⟩:=st
  have l1':=r1.length
  refine wpAny_pyNext_enum_end (I.ok.hd hc) he h1 p1.isList (Array.getElem?_eq_none (by rw[List.size_toArray];omega)) fun h' hk=>⟨rfl, ?_⟩
  refine I.turnedL (t':=s.toks) (ch:=[e,it]) (fun b o hb q=> ?_) hf
  simp only[List.mem_cons,List.not_mem_nil,or_false,not_or] at hb
  exact hk b o hb.2 q
 self:=fun _ _ _ _ _ st h=>by
  obtain⟨⟨old,he⟩,_⟩:=st
  exact wpAny_pyIter_enum he h
def x6(K:W.Frag)(ta:TA):TI:=fun σ H R=>ta σ H fun vs H1=>∃l xs,vs=[.ref l]∧SqL K H1 l xs∧R (Ite K l) H1
theorem mo{X:Cx}{a:Expr}{ta:TA}{p pos tpos:Pos}{elts:List Expr}{kk:Nat}(hg:Gl X "enumerate")(hm:X.mg "enumerate"=none)(ha:PA X [a] ta)(hs:starEach [a] X.env=[(false,eval a X.env)]:=by rfl):
 PI X (.Tuple elts kk tpos) (.Call (.Name "enumerate" p) [a] [] pos) (x6 X.K ta):=by
 intro pins s σ H R I h
 refine Call_ (io I hg hm (show bootBuiltins "enumerate"=some (.type "enumerate") from by decide+kernel) (PyProof.Rows.callWith_type1 (thn (ha pos pins s σ H _ I h) fun us s1 ⟨vs,H1,I1,r1,q1⟩=> ?_) hs rfl))
 obtain⟨l,xs,ev,q1,q⟩:=q1
 subst ev
 obtain⟨u1,rfl,ru1⟩:=r1.one
 cases ru1
 obtain⟨its1,v1,p1,z1⟩:=I1.list q1
 refine call_enumerate_list p1.isList fun h' he h1 sz hk=>wpAny_pyIter_enum he ?_
 refine⟨_,_,Ar _ _ _,_,H1,rfl,I1.kept (t':=s1.toks) hk,tW _ _ _ (Nat.ne_of_gt (Nat.lt_succ_self _)),⟨⟨_,he⟩,h1⟩,fun b hb=> ?_,q⟩
 have hb':s1.heap.objs.size≤b:=by
  simp only[List.mem_cons,List.not_mem_nil,or_false] at hb
  rcases hb with rfl|rfl
  · exact Nat.le_succ _
  · exact Nat.le_refl _
 exact I1.fpOk hb' (I1.hok.fresh hb')
end L2
namespace L2
open PySem PySem.Spec PyProof.Rows
def clA(K:W.Frag)(x:Str):Addr:=match W.nsIn K mainGlobals x with
 |some (some (.ref a))=>a
 |_=>0
theorem j3{K:W.Frag}{x:Str}{a:Addr}(h:W.nsIn K mainGlobals x=some (some (.ref a))):clA K x=a:=by
 unfold clA
 rw[h]
section
variable{K:W.Frag}{C D:Addr}{cd cd':ClassData}
structure KObj(K:W.Frag)(C:Addr)(cd:ClassData):Prop where
 cls:W.clsIn K C=some cd
 type:W.typeIn K (.ref C)=some (.type "type")
 mro:∃bm,cd.mro= .ref C::bm
theorem KObj.sub(x:KObj K C cd)(v:Value):W.subIn K (.ref C) v=some (cd.mro.contains v):=by
 obtain⟨bm,hm⟩:=x.mro
 show W.mroIn K C v=_
 unfold W.mroIn
 rw[x.cls,Option.bind_some,hm]
 rfl
theorem KObj.kit(x:KObj K C cd)(y:KObj K D cd'):W.kitOne K (.ref C) (.ref D)=some (cd.mro.contains (.ref D)):=by
 unfold W.kitOne
 by_cases q:(Value.ref C==Value.ref D)=true
 · have e:C=D:=Value.ref.inj (beq_iff_eq.mp q)
   subst e
   obtain⟨bm,hm⟩:=x.mro
   rw[if_pos q,hm,List.contains_cons,q,Bool.true_or]
 · rw[if_neg q]
   unfold W.kitCls
   dsimp only
   rw[y.cls,y.type,x.sub]
   rw[if_pos (by rw[beq_self_eq_true];rfl)]
end
inductive Pts(K:W.Frag):List Str→List Addr→Prop
 |nil:Pts K [] []
 |cons {n:Str} {ns:List Str} {C:Addr} {Cs:List Addr} {cd:ClassData}:W.nsIn K mainGlobals n=some (some (.ref C))→KObj K C cd→Pts K ns Cs→Pts K (n::ns) (C::Cs)
section
variable{K:W.Frag}{C:Addr}{cd:ClassData}
theorem wK{ms:List Str}(x:KObj K C cd){ns:List Str}{Cs:List Addr}(p:Pts K ns Cs):(Cs.map fun D=>cd.mro.contains (.ref D))=ns.map ms.contains→∀n∈ns,W.kitOne K (.ref C) (.ref (clA K n))=some (ms.contains n):=by
 induction p with
 |nil=>intro _ n h;cases h
 |cons a y p ih=>
  intro e n h
  have e':=List.cons.inj e
  rcases List.mem_cons.mp h with rfl|h
  · rw[j3 a,x.kit y]
    exact congrArg some e'.1
  · exact ih e'.2 n h
theorem pk:∀f∈([]:List Str),NoAttr K C f:=fun _ h=>by cases h
theorem fD{f:Str}{fs:List Str}(h:W.findIn K (.ref C) f=some none)(t:∀g∈fs,NoAttr K C g):∀g∈f::fs,NoAttr K C g:=fun g hg=>by
 rcases List.mem_cons.mp hg with rfl|hg
 · exact h
 · exact t g hg
end
section
variable{X:Cx}{k n:Nat}{x:Str}{ps:List Str}{sp:Sp}{p pos:Pos}{e:Expr}{es:List Expr}{t:TA}
theorem uO(hg:Gl X x)(h:X.mg x=some (.ref (clA X.K x)))(hd:(x==("__debug__":Str))=false:=by decide):PE X (.Name x pos) (tC (.ref (clA X.K x))):=r9 hg h rfl hd
end
def As(σ σ':St):Prop:=σ.length=σ'.length∧∀(j:Nat) (v:V),σ[j]? =some (some v)→σ'[j]? =some (some v)
def kg(kx:Nat)(cap:List Nat)(σ:St):St:=List.replicate kx none++cap.map fun i=>(σ[i]?).join
def tX(J:It)(kx:Nat)(g:TG)(tc:TT)(te:TE)(cap:List Nat)(σ:St)(Q:VK)(H1:Hp):Prop:=∀acc,H1 acc=none→∃W:Nat→Nat→Hp→Prop,(∃m,W 0 m (upd H1 acc (.lst [])))∧∀i m H,W i m H→
 (J.stop i H∧Q (.ref acc) H)∨(J.go i H∧∀x H',J.yld i H x H'→g x (kg kx cap σ) H' fun σ2 H2=>As (kg kx cap σ) σ2∧tc σ2 H2 fun b H3=>if b=true then te σ2 H3 fun y H4=>∃ys,H4 acc=some (.lst ys)∧ys.length<sizeLine∧∃m',m'<m∧W (i+1) m' (upd H4 acc (.lst (ys++[y]))) else ∃m',m'<m∧W (i+1) m' H3)
def rG(wi:TI)(kx:Nat)(g:TG)(tc:TT)(te:TE)(cap:List Nat):TE:=fun σ H Q=>wi σ H fun J H1=>tX J kx g tc te cap σ Q H1
section
variable{X:Cx}{pins:List (Addr×Obj)}{σ:St}{H:Hp}{s:Shared}
structure CompScopeT(X:Cx)(scope:Scope)(xs:List Str)(cn:List Str)(cap:List Nat):Prop where
 kind:scope.kind= .function
 names:∀y∈scope.names,y.2= .local→scope.names.lookup y.1=some .local
 cell:∀y∈scope.names,y.2≠ .cell
 own:∀y∈xs,scope.names.lookup y=some .local
 free:∀y∈scope.names,y.2= .free→X.env.kindOf y.1=some .cell∨X.env.kindOf y.1=some .free
 cap:cap.map (fun i=>X.N[i]?)=cn.map some
 capf:∀y∈cn,scope.names.lookup y=some .free
 capo:∀y∈cn,X.env.scope.names.lookup y=some .cell∨X.env.scope.names.lookup y=some .free
 nd:(xs++cn).Nodup
theorem uP{scope:Scope}{xs:List Str}{cn:List Str}{cap:List Nat}{cl:List (Str×Addr)}{C:Addr}{fp:List Addr}(S:CompScopeT X scope xs cn cap)(I:Inv X pins σ H s)(hf:∀b∈fp,jU X pins H b)(hlt:∀b∈fp,b<s.heap.objs.size)
 (hc1:∀y c,cl.lookup y=some c→X.env.cells.lookup y=some c)(hc2:∀y,(y,NameKind.free)∈scope.names→∃c,cl.lookup y=some c)(hC:s.heap.objs.size≤C):(cv X scope (xs++cn) cl C s H fp).Ok where
 mod:=I.ok.mod
 kind:=S.kind
 glob:=I.ok.glob
 blt:=I.ok.blt
 above:=hC
 inj:=fun y z c h1 h2=>I.ok.inj y z c (hc1 y c h1) (hc1 z c h2)
 has:=fun y h=>hc2 y (iu (env:=X.env) S.cell h)
 cab:=fun y c h=>by cases (show false=true from h)
 hd:=I.ok.hd
 frames:=I.ok.frames
 stk:= .inl rfl
 exf:=fun b hb=>⟨Nat.ne_of_lt (Nat.lt_of_lt_of_le (hlt b hb) hC),fun y c h=>(hf b hb).2.2.2.2.1 y c (hc1 y c h)⟩
 bs:=I.bs
 bsz:=Nat.le_trans I.ok.bsz I.sz
 noex:=fun b o e hb=>by
  rcases(hf b hb).2.2.2.1 with z|z
  · exact I.ok.noex b o e z
  · have h1:=Heap.lt_size e
    exact absurd (Nat.lt_of_lt_of_le h1 (Nat.le_trans I.ok.bsz z)) (Nat.lt_irrefl _)
 exfs:=fun b hb z=>by
  rcases List.mem_cons.mp (I.stkSub b z) with q|q
  · exact(hf b hb).2.1 q
  · exact(hf b hb).2.2.1 q
 funs:=I.stack
 frf:=I.stkFree
theorem rH{elt iter tg:Expr}{xs:List Str}{kx:Nat}{g:TG}{ifs:List Expr}{scope:Scope}{pos:Pos}{wi:TI}{tc:TT}{te:TE}(cn:List Str)(cap:List Nat)(S:CompScopeT X scope xs cn cap)(hc:X.calm=true)
 (hkx:xs.length=kx)(hg:∀cl C s₀ H₀ ex,PG (cv X scope (xs++cn) cl C s₀ H₀ ex) tg g)
 (hi:PI X tg iter wi)(hin:∀cl C s₀ H₀ ex,rF (cv X scope (xs++cn) cl C s₀ H₀ ex) ifs tc)(he:∀cl C s₀ H₀ ex,PE (cv X scope (xs++cn) cl C s₀ H₀ ex) elt te)
 (hs:∀z,foldedSetIterable iter X.env z=pure z){use:Option (Value→Sem Unit)}{Q:VK}{Q':Value→Shared→Prop}{pins:List (Addr×Obj)}{s:Shared}{σ:St}{H:Hp}(I:Inv X pins σ H s)(h:rG wi kx g tc te cap σ H Q)
 (fin:∀(d C:Addr) (H':Hp) (s':Shared) (m:_),Inv X pins σ H' s'→jU X pins H' C→s'.heap.Ns C m→Q (.ref d) H'→∀r,compPost (model X.prog X.w) X.A X.xe use Q' (.ref d) C (.ok r) s'):
 wpAny (model X.prog X.w) X.A (comprehension (.ListComp elt [⟨tg,iter,ifs,0⟩] scope pos) scope X.env (firstIterPos [⟨tg,iter,ifs,0⟩] pos) (newList []) false (firstIter [⟨tg,iter,ifs,0⟩] X.env) use) Q' X.xe s:=by
 obtain⟨cl,hclos,hc1,hc2⟩:=mM (scope:=scope) (env:=X.env) fun y hy hk=>I.ok.has y.1 (S.free y hy hk)
 refine wpAny_comprehension_free (use:=use) rfl hs hclos S.kind S.names (thn (hi pins s σ H _ I h) fun v s1 h1=>thn h1 fun itv s2 h2=> ?_)
 obtain⟨it,fp,tn,J,H2,e,I2,T,st2,f2,q2⟩:=h2
 subst e
 have hlt:∀b∈fp,b<s2.heap.objs.size:=fun b hb=>by
  obtain⟨o,e,_⟩:=T.obj _ _ st2 b hb
  exact Heap.lt_size e
 refine wpAny_newObj_type (wpAny_newFunctionEnv S.cell (by intro y hy;simp at hy) (fun h₁ hns₁ hsb₁=> ?_) S.kind)
 dsimp only at hns₁ hsb₁ ⊢
 generalize hP:s2.heap.push {cls:= .type "list",dict:=none,data:= .seq ([]:List Value).toArray}=P2 at hns₁ hsb₁ ⊢
 have hC:P2.objs.size=s2.heap.objs.size+1:=by rw[←hP,Heap.size_push]
 have hDC:s2.heap.objs.size≠P2.objs.size:=by rw[hC];exact Nat.ne_of_lt (Nat.lt_succ_self _)
 have hCle:s2.heap.objs.size≤P2.objs.size:=by rw[hC];exact Nat.le_succ _
 have neC:∀b,b<s2.heap.objs.size→b≠P2.objs.size:=fun b hb=>by rw[hC];exact Nat.ne_of_lt (Nat.lt_succ_of_lt hb)
 have old:∀b o,s2.heap.get? b=some o→h₁.get? b=some o:=fun b o e=>hsb₁.extBut b o (neC b (Heap.lt_size e)) (Heap.get?_push_of_some _ (hP▸Heap.get?_push_of_some _ e))
 have hacc:h₁.get? s2.heap.objs.size=some {cls:= .type "list",dict:=none,data:= .seq ([]:List Value).toArray}:=hsb₁.extBut _ _ hDC (Heap.get?_push_of_some _ (hP▸Heap.get?_push_size _ rfl))
 have hD0:H2 s2.heap.objs.size=none:=I2.hok.fresh (Nat.le_refl _)
 have ok':(cv X scope (xs++cn) cl P2.objs.size s2 H2 fp).Ok:=uP S I2 f2 hlt hc1 hc2 hCle
 obtain⟨W,⟨m0,w0⟩,turn⟩:=q2 _ hD0
 have hok1:HOk X.prog X.w (upd H2 s2.heap.objs.size (.lst [])) h₁:=I2.hok.laid old (Nat.le_refl _) ⟨Nat.zero_le _,[],_, .nil,hacc⟩
 have un1:Un (frs X.stack) fp H2 (upd H2 s2.heap.objs.size (.lst [])) s2.heap h₁:=Un.laid old (Nat.le_refl _) hD0
 have I4:∀tk,Inv (cv X scope (xs++cn) cl P2.objs.size s2 H2 fp) [] (kg kx cap σ) (upd H2 s2.heap.objs.size (.lst [])) {s2 with heap:=h₁,toks:=tk}:=fun tk=>by
  refine⟨ok',rfl,I2.bare,un1,⟨_,hns₁,fun i y v e1 e2 e3=> ?_⟩,fun y c e=> ?_, ?_,fun y c e=> ?_,fun p hp=>(nomatch hp),hok1, ?_⟩
  · by_cases hik:i<kx
    · have e2':(List.replicate kx (none:Option V)++cap.map fun i=>(σ[i]?).join)[i]? =some (some v):=e2
      rw[List.getElem?_append_left (by rw[List.length_replicate];exact hik),List.getElem?_replicate,if_pos hik] at e2'
      cases Option.some.inj e2'
    · have e1'':(xs++cn)[i]? =some y:=e1
      have e1':cn[i-kx]? =some y:=by
       rw[List.getElem?_append_right (by rw[hkx];exact Nat.le_of_not_lt hik),hkx] at e1''
       exact e1''
      have ymem:y∈cn:=List.mem_of_getElem? e1'
      obtain⟨i0,ci,ni⟩:=sx S.cap e1'
      have e2'':(List.replicate kx (none:Option V)++cap.map fun i=>(σ[i]?).join)[i]? =some (some v):=e2
      have e2':(cap.map fun i=>(σ[i]?).join)[i-kx]? =some (some v):=by
       rw[List.getElem?_append_right (by rw[List.length_replicate];exact Nat.le_of_not_lt hik),List.length_replicate] at e2''
       exact e2''
      rw[List.getElem?_map,ci] at e2'
      have e3':(σ[i0]?).join=some v:=Option.some.inj e2'
      have e4:σ[i0]? =some (some v):=by
       cases q:σ[i0]? with
       |none=>rw[q] at e3';cases e3'
       |some o=>rw[q] at e3';exact congrArg some e3'
      obtain⟨m,hn,hl⟩:=I2.loc
      have vis:Vis X.env.scope y:= .inr (S.capo y ymem)
      obtain⟨u,r,lk⟩:=hl i0 y v ni e4 vis
      refine⟨u,r, .inr ⟨cR (env:=X.env) (S.capf y ymem), ?_⟩⟩
      rcases lk with⟨kl,_⟩|⟨_,c,ec,hcell⟩
      · rcases S.capo y ymem with z|z
        · have kl':X.env.scope.names.lookup y=some .local:=kl
          rw[z] at kl';cases kl'
        · have kl':X.env.scope.names.lookup y=some .local:=kl
          rw[z] at kl';cases kl'
      · have fm:(y,NameKind.free)∈scope.names:=iu (env:=X.env) S.cell (cR (env:=X.env) (S.capf y ymem))
        obtain⟨c',ec'⟩:=hc2 y fm
        have:=hc1 y c' ec'
        rw[ec] at this
        cases this
        obtain⟨o,ho,hd⟩:=hcell
        exact⟨c,ec',o,old _ _ ho,hd⟩
  · obtain⟨v,o,ho,hd⟩:=I2.cell y c (hc1 y c e)
    exact⟨v,o,old _ _ ho,hd⟩
  · show (upd H2 s2.heap.objs.size (.lst [])) P2.objs.size=none
    rw[bO (Ne.symm hDC)]
    exact I2.hok.fresh hCle
  · obtain⟨v,o,ho,hd⟩:=I2.cell y c (hc1 y c e)
    rw[bO (Nat.ne_of_lt (Heap.lt_size ho))]
    exact I2.freeC y c (hc1 y c e)
  · show (kg kx cap σ).length=(xs++cn).length
    have:=congrArg List.length S.cap
    simp only[List.length_map] at this
    simp[kg,this,hkx]
 have stat:∀{H':Hp},(∀b∈fp,H' b=none)→∀b∈fp,jU (cv X scope (xs++cn) cl P2.objs.size s2 H2 fp) [] H' b:=fun hn b hb=>
  ⟨hn b hb,neC b (hlt b hb),ok'.exfs b hb, .inl hb,fun y c e=>(ok'.exf b hb).2 y c e,fun p hp=>(nomatch hp)⟩
 have loop:∀s₃:Shared,s₃={s2 with heap:=h₁,toks:=s2.toks+([]:List (Str×Value)).length}→
  codeAny (model X.prog X.w) X.A (.compLoop (.ListComp elt [⟨tg,iter,ifs,0⟩] scope pos) 0 (.ref it) (.ref s2.heap.objs.size) (compEnvC scope cl P2.objs.size X.env))
   (compPost (model X.prog X.w) X.A X.xe use Q' (.ref s2.heap.objs.size) P2.objs.size) s₃:=by
  rintro s₃ rfl
  refine codeAny_loop rfl (fun n s'=>∃i H',Inv (cv X scope (xs++cn) cl P2.objs.size s2 H2 fp) [] (kg kx cap σ) H' s'∧tn i s'.heap∧(∀b∈fp,H' b=none)∧W i n H') ?_ m0
   ⟨0,_,I4 _,T.keep _ _ _ st2 fun b hb o e=>old b o e,fun b hb=>by rw[bO (Nat.ne_of_lt (hlt b hb))];exact(f2 b hb).1,w0⟩
  rintro n s3 ⟨i,H3,I3,st3,fr3,w3⟩
  show wpAny _ X.A ((compTurn (.ListComp elt [⟨tg,iter,ifs,0⟩] scope pos) 0 (.ref it) (.ref s2.heap.objs.size) (compEnvC scope cl P2.objs.size X.env)).onRaise (fun x=>do noteFrame x (compEnvC scope cl P2.objs.size X.env);theTreesLotGoes x)) _ _ s3
  refine wpAny_noted ?_
  rw[compTurn_list]
  refine wpAny_bind (wpAny_standAt (wpAny_bind ?_))
  rcases turn i n H3 w3 with⟨stop,qn⟩|⟨go,step⟩
  · refine wpAny_mono (T.done (cv X scope (xs++cn) cl P2.objs.size s2 H2 fp) rfl rfl rfl hc i [] s3 _ H3 (fun _ _=>False) I3 (stat fr3) st3 stop) (fun r s4 ⟨hr,I5⟩=> ?_) fun _ _ z=>z.elim
    subst hr
    refine wpAny_pure ?_
    obtain⟨m,hn,_⟩:=id I5.loc
    have J:Inv X pins σ H3 s4:=by
     have kp:∀b o,b≠P2.objs.size→s4.heap.get? b=some o→s4.heap.get? b=some o:=fun b o hb e=>e
     have b0:=I5.base
     have sm:∀b o,s2.heap.get? b=some o→b≠P2.objs.size:=fun b o e=>neC b (Heap.lt_size e)
     refine I2.call' (s':=s4) (ch:=fp) I5.os ⟨fun b o e n hb hx=>kp _ _ (sm b o e) (b0.keep b o e n hb hx),fun b o e n hb hx=> ?_,b0.free,fun b o e hx=> ?_,b0.tups,b0.frzs,b0.tbls⟩ (fun b u e=> ?_) I5.bare
      fun b hb=>⟨(f2 b hb).2.2.2.1,(f2 b hb).2.1,(f2 b hb).2.2.2.2.1,(f2 b hb).2.2.2.2.2⟩
     · obtain⟨sl,q⟩:=b0.slot b o e n hb hx
       exact⟨sl,kp _ _ (sm b o e) q⟩
     · obtain⟨o',q⟩:=b0.there b o e hx
       exact⟨o',kp _ _ (sm b o e) q⟩
     · have hfree:H3 P2.objs.size=none:=I5.free
       refine(I5.hok b u e).stay (fun c v hc' q=>kp c v ?_ q) (fun _ q=>q) fun _ _ q=>q
       rcases hc' with z|z
       · rw[z];exact bL e hfree
       · exact bL z hfree
    have fC:jU X pins H3 P2.objs.size:=by
     have q:=I2.fpOk hCle (I2.hok.fresh hCle)
     exact⟨I5.free,q.2⟩
    exact fin _ _ _ _ m J fC hn qn _
  · refine wpAny_mono (T.item (cv X scope (xs++cn) cl P2.objs.size s2 H2 fp) rfl rfl rfl hc i [] s3 _ H3 (fun _ _=>False) I3 (stat fr3) st3 go) (fun r s4 ⟨u,hr,h4⟩=> ?_) fun _ _ z=>z.elim
    subst hr
    refine wpAny_bind (wpAny_mono h4 (fun _ s5 ⟨xv,H5,I5,r5,y5,st5,fr5⟩=> ?_) fun _ _ z=>z.elim)
    have I5':=I5.pinned (stat fr5) (T.obj _ _ st5)
    refine wpAny_bind (wpAny_mono (hg cl P2.objs.size s2 H2 fp _ s5 _ H5 xv u _ I5' r5 (step xv _ y5)) (fun _ s6 ⟨σ6,H6,I6,ks,q6⟩=> ?_) fun _ _ z=>z.elim)
    have again:∀{s7:Shared} {H7:Hp},Inv (cv X scope (xs++cn) cl P2.objs.size s2 H2 fp) ([]++kN fp s5.heap) σ6 H7 s7→(∃m',m'<n∧W (i+1) m' H7)→
     ∃m,m<n∧∃i H',Inv (cv X scope (xs++cn) cl P2.objs.size s2 H2 fp) [] (kg kx cap σ) H' s7∧tn i s7.heap∧(∀b∈fp,H' b=none)∧W i m H':=fun {s7 H7} I7 w7=>by
     obtain⟨m',hm,w7⟩:=w7
     refine⟨m',hm,i+1,H7,I7.unpinned.weak ks.1 ks.2,T.keep _ _ _ st5 fun b hb o e=>(I7.pin (b,o) (List.mem_append_right _ (List.mem_append_right _ (gx hb e)))).1,fun b hb=> ?_,w7⟩
     · obtain⟨o,e,d⟩:=T.obj _ _ st5 b hb
       exact(I7.pin (b,o) (List.mem_append_right _ (List.mem_append_right _ (gx hb e)))).2.1
    refine wpAny_bind (wpAny_mono (hin cl P2.objs.size s2 H2 fp _ s6 _ _ _ I6 q6) (fun ok s7 ⟨H7,I7,q7⟩=> ?_) fun _ _ z=>z.elim)
    cases ok with
    |false=>
     have q7':∃m',m'<n∧W (i+1) m' H7:=by simpa using q7
     exact wpAny_pure ⟨rfl,again I7 q7'⟩
    |true=>
     have q7':=(if_pos rfl).mp q7
     refine wpAny_bind (wpAny_bind (wpAny_mono (he cl P2.objs.size s2 H2 fp _ s7 _ H7 _ I7 q7') (fun yv s8 ⟨y,H8,I8,r8,ys,h8,z8,q8⟩=> ?_) fun _ _ z=>z.elim))
     refine wpAny_bind (wpAny_mono (cZ (X:=cv X scope (xs++cn) cl P2.objs.size s2 H2 fp) _ s8 _ H8 (.ref s2.heap.objs.size) [y] (.ref s2.heap.objs.size) [yv] (fun _ H9=>∃m',m'<n∧W (i+1) m' H9) I8 rfl (.cons r8 .nil) ⟨_,ys,y,rfl,rfl,h8,z8,q8⟩) (fun _ s9 ⟨_,H9,I9,_,q9⟩=> ?_) fun _ _ z=>z.elim)
     exact wpAny_pure (wpAny_pure ⟨rfl,again I9 q9⟩)
 exact codeAny_compStart_list (loop _ rfl) (T.self _ 0 _ _ _ (T.keep _ _ _ st2 fun b hb o e=>old b o e) (loop _ rfl))
theorem uQ{elt iter tg:Expr}{xs:List Str}{kx:Nat}{g:TG}{ifs:List Expr}{scope:Scope}{pos:Pos}{wi:TI}{tc:TT}{te:TE}(cn:List Str)(cap:List Nat)(S:CompScopeT X scope xs cn cap)(hc:X.calm=true)
 (hkx:xs.length=kx)(hg:∀cl C s₀ H₀ ex,PG (cv X scope (xs++cn) cl C s₀ H₀ ex) tg g)
 (hi:PI X tg iter wi)(hin:∀cl C s₀ H₀ ex,rF (cv X scope (xs++cn) cl C s₀ H₀ ex) ifs tc)(he:∀cl C s₀ H₀ ex,PE (cv X scope (xs++cn) cl C s₀ H₀ ex) elt te)
 (hs:∀z,foldedSetIterable iter X.env z=pure z:=by intro _;rfl):PE X (.ListComp elt [⟨tg,iter,ifs,0⟩] scope pos) (rG wi kx g tc te cap):=by
 intro pins s σ H Q I h
 rw[eval_ListComp]
 refine rH cn cap S hc hkx hg hi hin he hs I h fun d C H' s' m J fC hn qn r=>⟨m,hn,fun h' hsb=>⟨.ref d,H', ?_,rfl,qn⟩⟩
 refine J.turnedL (t':=s'.toks) (ch:=[C]) (fun b o hb e=>hsb.extBut b o (by simpa using hb) e) (fun b hb=> ?_)
 cases List.mem_singleton.mp hb
 exact fC
end
section
variable{X:Cx}{pins:List (Addr×Obj)}{σ:St}{H:Hp}{s:Shared}
theorem TyOf.kit{x:V}{u t:Value}(ty:TyOf X.K H x t)(I:Inv X pins σ H s)(rx:RelV x u):(u≠ .builtin "__main__.__loader__#opaque")∧∃Z,W.KitX X.K u t Z∧Z s.heap:=by
 cases ty with
 |non=>cases (show u=Value.none from rx);exact⟨(fun z=>nomatch z),_,W.kitx_none,True.intro⟩
 |bl y=>cases (show u=Value.bool y from rx);exact⟨(fun z=>nomatch z),_,W.kitx_bool,True.intro⟩
 |int i=>obtain⟨t,q⟩:=(show ∃t,u=Value.int i t from rx);cases q;exact⟨(fun z=>nomatch z),_,W.kitx_int,True.intro⟩
 |str y=>obtain⟨t,q⟩:=(show ∃t,u=Value.str y t from rx);cases q;exact⟨(fun z=>nomatch z),_,W.kitx_str,True.intro⟩
 |flt y=>obtain⟨t,q⟩:=(show ∃t,u=Value.float y t from rx);cases q;exact⟨(fun z=>nomatch z),_,W.kitx_float,True.intro⟩
 | @lst a xs ea=>
   cases (show u=Value.ref a from rx)
   obtain⟨_,_,n,_,h1⟩:=(show ObjOk X.prog X.w H s.heap a (.lst xs) from I.hok a _ ea)
   exact⟨(fun z=>nomatch z),_,W.kitx_list,_,h1,rfl⟩
 | @frz a ob xs ea=>
   cases (show u=Value.ref a from rx)
   obtain⟨_,_,_,n,_,h1⟩:=(show ObjOk X.prog X.w H s.heap a (.frz ob (.lst xs)) from I.hok a _ ea)
   exact⟨(fun z=>nomatch z),_,W.kitx_list,_,h1,rfl⟩
 | @tup a xs ea=>
   cases (show u=Value.ref a from rx)
   obtain⟨_,_,_,p⟩:=(show ObjOk X.prog X.w H s.heap a (.tup xs) from I.hok a _ ea)
   obtain⟨o,h1,h2,_⟩:=p
   exact⟨(fun z=>nomatch z),_,W.kitx_tuple,o,h1,h2⟩
 | @dK a kvs ea=>
   cases (show u=Value.ref a from rx)
   obtain⟨_,_,vs,_,p⟩:=(show ObjOk X.prog X.w H s.heap a (.dK kvs) from I.hok a _ ea)
   obtain⟨o,es,ep,h1,h2,_⟩:=p
   exact⟨(fun z=>nomatch z),_,W.kitx_dict,o,h1,h2.1⟩
 | @dT a kvs ea=>
   cases (show u=Value.ref a from rx)
   obtain⟨_,_,xs,_,o,es,ep,h1,h2,_⟩:=(show ObjOk X.prog X.w H s.heap a (.dT kvs) from I.hok a _ ea)
   exact⟨(fun z=>nomatch z),_,W.kitx_dict,o,h1,h2.1⟩
 | @ins a C dx fs ea cl ha hn htk hm=>
   cases (show u=Value.ref a from rx)
   obtain⟨mA,O,_⟩:=ml I.hok ea
   obtain⟨od,J,_⟩:=O.look
   exact⟨(fun z=>nomatch z),_,W.kitx_own (cl.get _) cl.hd ha hn htk hm,J⟩
def y1(K:W.Frag):List V→Hp→VK→Prop:=fun xs H Q=>∃x p Ts t k,xs=[x, .ref p]∧H p=some (.tup (List.map V.ty Ts))∧TyOf K H x t∧W.kitAny K t (Ts.map .type)=some k∧Q (.bl k) H
theorem sA:∀{Ts:List String} {us:List Value},Vals (Ts.map V.ty) us→us=Ts.map .type
 |[],_, .nil=>rfl
 |T::Ts,_, .cons h t=>by
  obtain rfl:_=Value.type T:=h
  rw[sA t]
  rfl
theorem qB:CallR X (.builtin "isinstance") (y1 X.K):=by
 intro pins s σ H xs us Q I r h
 obtain⟨x,p,Ts,t,k,rfl,hp,ty,e,q⟩:=h
 obtain⟨u,v,rfl,rx,rv⟩:=Vals.two r
 cases rv
 obtain⟨nq,Z,z1,z2⟩:=ty.kit I rx
 obtain⟨_,its,rr,o,h1,h2,n,h3⟩:=(show ObjOk X.prog X.w H s.heap p (.tup (List.map V.ty Ts)) from I.hok p _ hp)
 obtain⟨oc,od,odt,osl⟩:=o
 dsimp only at h2 h3
 subst h2 h3
 have ei:=sA rr
 subst ei
 exact W.kia_tup z1 I.kIn z2 h1 e nq fun tk=>⟨.bl k,H,I.tok _,rfl,q⟩
def y2(K:W.Frag):List V→Hp→VK→Prop:=fun xs H Q=>∃x c t k,xs=[x, .ref c]∧TyOf K H x t∧W.kitOne K t (.ref c)=some k∧Q (.bl k) H
theorem kh:CallR X (.builtin "isinstance") (y2 X.K):=by
 intro pins s σ H xs us Q I r h
 obtain⟨x,c,t,k,rfl,ty,e,q⟩:=h
 obtain⟨u,v,rfl,rx,rv⟩:=Vals.two r
 cases rv
 exact n4 I rx ty e fun tk=>⟨.bl k,H,I.tok _,rfl,q⟩
end
structure PKd(K:W.Frag)(ns:List Str)(C:Addr)(ms fs:List Str):Prop where
 cls:Cls K C
 ca:W.findIn K (.ref C) "__class__"=some (some (.builtin "object.__class__"))
 cg:W.specialIn K (.builtin "object.__class__") "__get__"=some (some (.builtin "getset_descriptor.__get__"))
 ct:W.takesIn K (.builtin "object.__class__")=some true
 top:W.mroIn K C (.type "object")=some true
 sub:∀T:String,(Value.type T== .type "object")=false→W.subIn K (.ref C) (.type T)=some false
 kit:∀n∈ns,W.kitOne K (.ref C) (.ref (clA K n))=some (ms.contains n)
 na:∀f∈fs,NoAttr K C f
section
variable{K:W.Frag}{C:Addr}{cd:ClassData}{ns ms fs:List Str}
theorem PKd.ty{H:Hp}{a dx:Addr}{gs:List (Str×V)}(p:PKd K ns C ms fs)(e:H a=some (.ins C dx gs)):TyOf K H (.ref a) (.ref C):= .ins e p.cls p.ca p.cg p.ct p.top
theorem PKd.notT(p:PKd K ns C ms fs)(T:String)(h:(Value.type T== .type "object")=false:=by decide)(hm:W.kitMeta T=true:=by decide+kernel):W.kitOne K (.ref C) (.type T)=some false:=by
 unfold W.kitOne W.kitCls
 rw[if_neg (by intro q;cases beq_iff_eq.mp q)]
 dsimp only
 rw[if_pos hm]
 exact p.sub T h
theorem pq{x:Str}{dd:Option Addr}{sl:Array (Option Value)}{Cs:List Addr}(hn:W.nsIn K mainGlobals x=some (some (.ref C)))(l:K.lookup C=some ⟨.type "type",dd, .cls cd,sl⟩)(hm:cd.mro=[.ref C, .type "object"])(p:Pts K ns Cs)(e:(Cs.map fun D=>cd.mro.contains (.ref D))=ns.map ms.contains)
 (pg:W.plainGet K C Str.empty=true)(hd:W.hasDictIn K C=true)(po:W.plainOver K C=true)(sa:W.findIn K (.ref C) "__setattr__"=some (some (.builtin "object.__setattr__")))
 (ca:W.findIn K (.ref C) "__class__"=some (some (.builtin "object.__class__")))(cg:W.specialIn K (.builtin "object.__class__") "__get__"=some (some (.builtin "getset_descriptor.__get__")))(ct:W.takesIn K (.builtin "object.__class__")=some true)
 (na:∀f∈fs,NoAttr K C f):PKd K ns (clA K x) ms fs:=by
 rw[j3 hn]
 have hc:W.clsIn K C=some cd:=by
  unfold W.clsIn
  rw[l]
 have ht:W.typeIn K (.ref C)=some (.type "type"):=by
  show (K.lookup C).map (·.cls)=_
  rw[l]
  rfl
 have o:KObj K C cd:=⟨hc,ht,_,hm⟩
 refine⟨⟨pg,hd,po,sa⟩,ca,cg,ct, ?_,fun T hT=> ?_,wK o p e,na⟩
 · have:=o.sub (.type "object")
   rw[hm] at this
   exact this.trans (by rw[List.contains_cons,List.contains_cons,beq_self_eq_true,Bool.true_or,Bool.or_true])
 · rw[o.sub,hm,List.contains_cons,List.contains_cons,hT,Bool.false_or,List.contains_nil,Bool.or_false]
   rfl
theorem mq{dd:Option Addr}{sl:Array (Option Value)}(l:K.lookup C=some ⟨.type "type",dd, .cls cd,sl⟩)(hm:cd.mro=[.ref C, .type "object"]):KObj K C cd:=⟨by unfold W.clsIn;rw[l],by show (K.lookup C).map (·.cls)=_;rw[l];rfl,_,hm⟩
theorem sB{x:Str}{f:Addr}(hn:W.nsIn K mainGlobals x=some (some (.ref C)))(mi:W.makesIn K C=true)(hi:W.findIn K (.ref C) "__init__"=some (some (.ref f)))(hf:W.isFn K (.ref f)=true)(kp:W.keepIn K (.ref C)=true):Mk K (clA K x) f:=by
 rw[j3 hn]
 exact⟨mi,hi,hf,kp⟩
end
structure GotP(P:Program)(w:World)(K:W.Frag)(mg:Str→Option Value)(base:Heap)(k:Nat)(x:Str)(ps:List Str)(sp:Sp):Prop where
 ex:∃f fd,Mk K (clA K x) f∧FnOk P w K mg base CX0 k f fd ps sp∧Binds K fd ps []∧mg x=some (.ref (clA K x))
section
variable{X:Cx}{k n:Nat}{x:Str}{ps:List Str}{sp:Sp}{p pos:Pos}{e:Expr}{es:List Expr}{t:TA}
theorem j4(g:GotP X.prog X.w X.K X.mg X.base k x ps sp)(hr:Room n X.A)(hk:k+1≤n)(hg:Gl X x)(ha:PA X (e::es) t)(hdb:(x==("__debug__":Str))=false:=by decide)
 (he:starEach (e::es) X.env=(false,eval e X.env)::starEach es X.env:=by rfl)(hpl:(backTo pos (starEach es X.env)).any (·.1)=false:=by rfl):
 PE X (.Call (.Name x p) (e::es) [] pos) (sj (clA X.K x) sp [] E0 t):=by
 obtain⟨f,fd,M,F,hb,hm⟩:=g.ex
 exact wv M F (hr.mono hk) hg hm hb .nil xU ha hdb he hpl
end
structure CompCT(fsc:Scope)(N:List Str)(scope:Scope)(xs:List Str)(cn:List Str)(cap:List Nat):Prop where
 kind:scope.kind= .function
 names:∀y∈scope.names,y.2= .local→scope.names.lookup y.1=some .local
 cell:∀y∈scope.names,y.2≠ .cell
 own:∀y∈xs,scope.names.lookup y=some .local
 free:∀y∈scope.names,y.2= .free→fsc.names.lookup y.1=some .cell∨fsc.names.lookup y.1=some .free
 cap:cap.map (fun i=>N[i]?)=cn.map some
 capf:∀y∈cn,scope.names.lookup y=some .free
 capo:∀y∈cn,fsc.names.lookup y=some .cell∨fsc.names.lookup y=some .free
 nd:(xs++cn).Nodup
theorem CompCT.to{X:Cx}{fsc:Scope}{N:List Str}{scope:Scope}{xs cn:List Str}{cap:List Nat}(c:CompCT fsc N scope xs cn cap)(e1:X.env.scope=fsc)(e2:X.N=N):CompScopeT X scope xs cn cap:=by
 subst e1 e2
 exact⟨c.kind,c.names,c.cell,c.own,c.free,c.cap,c.capf,c.capo,c.nd⟩
theorem sC{X:Cx}{scope:Scope}{xs cn:List Str}{cap:List Nat}{cl:List (Str×Addr)}{C:Addr}{s₀:Shared}{H₀:Hp}{ex:List Addr}{y:Str}{pos:Pos}(S:CompScopeT X scope xs cn cap)(i:Nat)(hi:(xs++cn)[i]? =some y)(hm:y∈xs):
 PG (cv X scope (xs++cn) cl C s₀ H₀ ex) (.Name y pos) (iq i):=cz (i:=i) S.nd hi (.inl (lookup_relabel_local (env:=X.env) (S.own y hm))) (.inr (lookup_relabel_local (env:=X.env) (S.own y hm)))
section
variable{X:Cx}{K:W.Frag}{e:Expr}{f:Str}{pos:Pos}{ta:TE}
theorem mr(h:X.K=K)(he:PE X e ta)(hb:attributeBase e f X.env (eval e X.env)=eval e X.env):PE X (.Attribute e f pos) (oZ K ta f):=by
 subst h;exact bS he hb
theorem tY(h:X.K=K):CallR X (.builtin "isinstance") (y2 K):=by
 subst h;exact kh
theorem wL{es:List Expr}{k:Nat}{t:TGs}{n:Nat}(h:X.K=K)(hc:X.calm=true)(hs:PGs X es t)
 (hn:(assignEach es X.env).length=n:=by rfl)(hst:(assignEach es X.env).findIdx? (·.1)=none:=by rfl):PG X (.Tuple es k pos) (wn K n t):=by
 subst h;exact mG hc hs hn hst
theorem y3{x:Str}(h:X.K=K)(hg:Gl X x)(hm:X.mg x=some (.ref (clA K x)))(hd:(x==("__debug__":Str))=false:=by decide):PE X (.Name x pos) (tC (.ref (clA K x))):=r9 hg hm rfl hd
end
section
variable{X:Cx}
def y4(K:W.Frag):List V→Hp→VK→Prop:=fun xs H Q=>∃l ns,xs=[.ref l]∧SqL K H l (List.map V.int ns)∧Q (.int ns.sum) H
theorem iR(hc:X.calm=true):CallR X (.builtin "sum") (y4 X.K):=by
 intro pins s σ H xs us Q I r h
 obtain⟨l,ns,rfl,hS,q⟩:=h
 obtain⟨u,rfl,ru⟩:=r.one
 cases ru
 obtain⟨its,rv,pl,hz⟩:=I.list hS
 have hi:=jZ rv
 obtain⟨ys,hx⟩:=hi.allInts.items
 have hl':s.heap.IsList l (intItems ys):=hx▸pl.isList
 refine sum_intListG (I.ok.hd hc) hl' fun h' tk t' hk=> ?_
 have e1:ns=ys.toList.map (·.1):=by
  rw[←nums_intItems,←hx]
  exact(show numsOf its.toArray.toList=ns from hi.numsOf).symm
 have e2:preSum (numAt ys) ys.size=ns.sum:=by
  rw[preSum_eq,List.take_of_length_le (by simp),e1]
 rw[e2]
 exact⟨.int _,H,I.kept hk,⟨_,rfl⟩,q⟩
theorem mP{K:W.Frag}(h:X.K=K)(hc:X.calm=true):CallR X (.builtin "sum") (y4 K):=by
 subst h;exact iR hc
end
theorem uR:bootBuiltins "sum"=some (.builtin "sum"):=by decide+kernel
theorem sD:bootBuiltins "min"=some (.builtin "min"):=by decide+kernel
end L2
namespace L2
open PySem PySem.Spec PyProof.Rows
section
variable{prog:Program}{w:World}{A:Around}{E:Value→Shared→Prop}{s:Shared}
theorem uT(t:Addr):¬((Value.ref t==Value.none)=true):=fun z=>Bool.false_ne_true z
theorem jg{j t:Addr}{i:Nat}{vs:Array Value}{x:Value}{Q:Value→Shared→Prop}(u:s.heap.IsTupleIter j t i)(v:s.heap.IsTuple t vs)(ex:vs[i]? =some x)
 (k:∀h',h'.IsTupleIter j t (i+1)→Heap.SameBut j s.heap h'→Q x {s with heap:=h'}):wpAny (model prog w) A (Builtin.SmallTypes.nextOf (.ref j)) Q E s:=by
 obtain⟨oj,ej,cj,dj⟩:=id u
 obtain⟨ot,et,_,nt,dt⟩:=v
 delta Builtin.SmallTypes.nextOf
 refine wpAny_bind (wpAny_callSpecial?_slot (name:="__next__") u.typeIs F.slot_tuple_iterator_next (wpAny_call_entry F.slot_tuple_iterator_next u.typeIs F.entry_tuple_iterator_next ?_ (F.args_tuple_iterator_next_1 _)))
 show wpAny (model prog w) A.in1 (field (.ref j) 0>>=_) _ _ s
 refine wpAny_bind (wpAny_field (x:= .ref t) ej dj rfl ?_)
 show wpAny (model prog w) A.in1 (if(Value.ref t==Value.none)=true then _ else _) _ _ s
 rw[if_neg (uT t)]
 show wpAny (model prog w) A.in1 (field (.ref j) 1>>=_) _ _ s
 refine wpAny_bind (wpAny_field (x:= .int i 0) ej dj rfl ?_)
 show wpAny (model prog w) A.in1 (seqItems? (.ref t)>>=_) _ _ s
 refine wpAny_bind (wpAny_seqItems et dt ?_)
 simp only[ex,Int.toNat_natCast]
 refine wpAny_bind (wpAny_setField ej dj (by simp) (wpAny_pure ⟨x,rfl,wpAny_pure (k _ ⟨_,Heap.get?_update_self _ ej (Obj.isFreed_of_fields (Obj.data_mapFields dj _)),(Obj.cls_mapFields ..).trans cj, ?_⟩ (Heap.SameBut.update ..))⟩))
 rw[Obj.data_mapFields dj]
 simp[rawInt]
theorem tZ{j t:Addr}{i:Nat}{vs:Array Value}{Q:Value→Shared→Prop}(hA:A.handled=none)(u:s.heap.IsTupleIter j t i)(v:s.heap.IsTuple t vs)(ex:vs[i]? =none)
 (k:∀h' e,Heap.ExtBut j s.heap h'→(∃o,h'.get? e=some o∧o.cls= .type "StopIteration")→E (.ref e) {s with heap:=h'}):wpAny (model prog w) A (Builtin.SmallTypes.nextOf (.ref j)) Q E s:=by
 obtain⟨oj,ej,cj,dj⟩:=id u
 obtain⟨ot,et,_,nt,dt⟩:=v
 delta Builtin.SmallTypes.nextOf
 refine wpAny_bind (wpAny_callSpecial?_slot (name:="__next__") u.typeIs F.slot_tuple_iterator_next (wpAny_call_entry F.slot_tuple_iterator_next u.typeIs F.entry_tuple_iterator_next ?_ (F.args_tuple_iterator_next_1 _)))
 show wpAny (model prog w) A.in1 (field (.ref j) 0>>=_) _ _ s
 refine wpAny_bind (wpAny_field (x:= .ref t) ej dj rfl ?_)
 show wpAny (model prog w) A.in1 (if(Value.ref t==Value.none)=true then _ else _) _ _ s
 rw[if_neg (uT t)]
 show wpAny (model prog w) A.in1 (field (.ref j) 1>>=_) _ _ s
 refine wpAny_bind (wpAny_field (x:= .int i 0) ej dj rfl ?_)
 show wpAny (model prog w) A.in1 (seqItems? (.ref t)>>=_) _ _ s
 refine wpAny_bind (wpAny_seqItems et dt ?_)
 simp only[ex,Int.toNat_natCast]
 refine wpAny_bind (wpAny_rule (wpAny_bind (wpAny_setField ej dj (by simp) ?_)))
 refine wpAny_bind ?_
 simp only[newTuple,newExc]
 refine wpAny_bind (wpAny_newObj_type ?_ (by size_fits))
 refine wpAny_bind (wpAny_of_eq (a:=Value.none) (by first|rfl|(simp only[firstArgMember];rfl)) (wpAny_newObj_type ?_ (by size_fits)))
 simp only[raiseNew]
 refine wpAny_bind (wpAny_handled ?_)
 rw[show A.in1.handled=none from hA]
 exact wpAny_bind (wpAny_pure (wpAny_throw (k _ _ (((Heap.SameBut.update ..).extBut.push _).push _) ⟨_,Heap.get?_push_size _ rfl,rfl⟩)))
structure ZP(h:Heap)(z ti to_ j1 j2 t1 t2:Addr)(i:Nat)(f0 a b:Value)(vs us:Array Value):Prop where
 z:IsZip h z ti to_ f0
 ti:IsPair h ti (.ref j1) (.ref j2)
 to_:IsPair h to_ a b
 j1:h.IsTupleIter j1 t1 i
 j2:h.IsTupleIter j2 t2 i
 t1:h.IsTuple t1 vs
 t2:h.IsTuple t2 us
theorem t5{z ti to_ j1 j2 t1 t2:Addr}{i:Nat}{vs us:Array Value}{x y a b:Value}{Q:Value→Shared→Prop}(D:ZipApart z ti to_ j1 j2 t1 t2)(Z:ZP s.heap z ti to_ j1 j2 t1 t2 i .none a b vs us)(ex:vs[i]? =some x)(ey:us[i]? =some y)
 (k:∀h',IsZip h' z ti to_ (rawInt s.heap.objs.size)→IsPair h' to_ x y→h'.IsTupleIter j1 t1 (i+1)→h'.IsTupleIter j2 t2 (i+1)→IsPair h' s.heap.objs.size x y→
  (∀c o,c≠z→c≠to_→c≠j1→c≠j2→s.heap.get? c=some o→h'.get? c=some o)→Q (.ref s.heap.objs.size) {s with heap:=h'}):
 wpAny (model prog w) A (Builtin.«zip.__next__» ⟨[.ref z],[]⟩) (fun fin s'=>∃v,fin= .done (.ret v)∧Q v s') E s:=by
 show wpAny (model prog w) A (field (.ref z) 2>>=_) _ _ _
 refine wpAny_bind (wpAny_field (x:= .bool false) Z.z rfl rfl ?_)
 show wpAny (model prog w) A (field (.ref z) 3>>=_) _ _ _
 refine wpAny_bind (wpAny_field (x:= .ref ti) Z.z rfl rfl (wpAny_bind (wpAny_seqItems Z.ti rfl ?_)))
 show wpAny (model prog w) A (Builtin.SmallTypes.ownedTupleIsFree (.ref z)>>=_) _ _ _
 refine wpAny_bind ?_
 delta Builtin.SmallTypes.ownedTupleIsFree
 refine wpAny_bind (wpAny_field (x:= .none) Z.z rfl rfl (wpAny_pure ?_))
 simp only[if_true]
 refine wpAny_bind (wpAny_rule (wpAny_bind (wpAny_field (x:= .ref to_) Z.z rfl rfl ?_)))
 refine wpAny_bind (wpAny_setField_rec Z.z (by simp) fun g1 z1 m1=> ?_)
 replace z1:IsZip g1 z ti to_ .ellipsis:=z1
 refine wpAny_bind ?_
 simp only[List.forIn_cons,List.forIn_nil,List.zipIdx_cons,List.zipIdx_nil]
 refine wpAny_bind (wpAny_bind (wpAny_onRaise ?_))
 show wpAny (model prog w) A (Builtin.SmallTypes.nextOf (.ref j1)>>=_) _ _ _
 refine wpAny_bind (jg (Z.j1.extBut m1.extBut D.i1z) (Z.t1.extBut m1.extBut D.l1z) ex fun g2 k2 m2=>wpAny_pure ?_)
 have o2:IsPair g2 to_ a b:=m2.extBut _ _ D.TOi1 (m1.extBut _ _ D.TOz Z.to_)
 refine wpAny_bind (wpAny_seqItems o2 rfl (wpAny_bind (wpAny_updateSeq_pair o2 fun g3 o3 m3=> ?_)))
 replace o3:IsPair g3 to_ x b:=o3
 refine wpAny_bind (wpAny_letGo (wpAny_pure (wpAny_bind (wpAny_bind (wpAny_onRaise ?_)))))
 show wpAny (model prog w) A (Builtin.SmallTypes.nextOf (.ref j2)>>=_) _ _ _
 refine wpAny_bind (jg (((Z.j2.extBut m1.extBut D.i2z).extBut m2.extBut D.i12.symm).extBut m3.extBut D.TOi2.symm) (((Z.t2.extBut m1.extBut D.l2z).extBut m2.extBut D.l2i1).extBut m3.extBut D.l2TO) ey fun g4 k4 m4=>wpAny_pure ?_)
 have o4:IsPair g4 to_ x b:=m4.extBut _ _ D.TOi2 o3
 refine wpAny_bind (wpAny_seqItems o4 rfl (wpAny_bind (wpAny_updateSeq_pair o4 fun g5 o5 m5=> ?_)))
 replace o5:IsPair g5 to_ x y:=o5
 refine wpAny_bind (wpAny_letGo (wpAny_pure (wpAny_pure (wpAny_bind (wpAny_seqItems o5 rfl (wpAny_bind (wpAny_newTuple ?_)))))))
 have sz:g5.objs.size=s.heap.objs.size:=by rw[m5.1,m4.1,m3.1,m2.1,m1.1]
 have z5:IsZip g5 z ti to_ .ellipsis:=m5.extBut _ _ D.TOz.symm (m4.extBut _ _ D.i2z.symm (m3.extBut _ _ D.TOz.symm (m2.extBut _ _ D.i1z.symm z1)))
 have kk:∀c o,c≠z→c≠to_→c≠j1→c≠j2→s.heap.get? c=some o→g5.get? c=some o:=fun c o c1 c2 c3 c4 e=>m5.extBut _ _ c2 (m4.extBut _ _ c4 (m3.extBut _ _ c2 (m2.extBut _ _ c3 (m1.extBut _ _ c1 e))))
 have a5:g5.IsTupleIter j1 t1 (i+1):=((k2.extBut m3.extBut D.TOi1.symm).extBut m4.extBut D.i12).extBut m5.extBut D.TOi1.symm
 have b5:g5.IsTupleIter j2 t2 (i+1):=k4.extBut m5.extBut D.TOi2.symm
 have lz:z<g5.objs.size:=Heap.lt_size z5
 show wpAny (model prog w) A (Builtin.SmallTypes.ownedTupleHandOut (.ref z) (.ref g5.objs.size)>>=_) _ _ _
 refine wpAny_bind ?_
 delta Builtin.SmallTypes.ownedTupleHandOut
 have z6:IsZip (g5.push {cls:= .type "tuple",data:= .seq #[x,y]}) z ti to_ .ellipsis:=Heap.get?_push_of_some _ z5
 refine wpAny_bind (wpAny_setField_rec z6 (by simp) fun g7 z7 m7=> ?_)
 replace z7:IsZip g7 z ti to_ (rawInt g5.objs.size):=z7
 refine wpAny_setField_rec z7 (by simp) fun g8 z8 m8=> ?_
 replace z8:IsZip g8 z ti to_ (rawInt g5.objs.size):=z8
 have up:∀c o,c≠z→g5.get? c=some o→g8.get? c=some o:=fun c o c1 e=>m8.extBut _ _ c1 (m7.extBut _ _ c1 (Heap.get?_push_of_some _ e))
 have n8:IsPair g8 g5.objs.size x y:=m8.extBut _ _ (Nat.ne_of_gt lz) (m7.extBut _ _ (Nat.ne_of_gt lz) (Heap.get?_push_size _ rfl))
 rw[sz] at z8 n8
 refine wpAny_pure ⟨_,rfl, ?_⟩
 show Q (.ref g5.objs.size) _
 rw[sz]
 obtain⟨p1,e1,r1⟩:=a5
 obtain⟨p2,e2,r2⟩:=b5
 exact k g8 z8 (up _ _ D.TOz o5) ⟨p1,up _ _ D.i1z e1,r1⟩ ⟨p2,up _ _ D.i2z e2,r2⟩ n8 fun c o c1 c2 c3 c4 e=>up c o c1 (kk c o c1 c2 c3 c4 e)
theorem uU{z ti to_ j1 j2 t1 t2:Addr}{i:Nat}{vs us:Array Value}{a b:Value}{Q:Fin→Shared→Prop}(hA:A.handled=none)(D:ZipApart z ti to_ j1 j2 t1 t2)(Z:ZP s.heap z ti to_ j1 j2 t1 t2 i .none a b vs us)(en:vs[i]? =none)
 (k:∀h' e,(∀c o,c≠z→c≠to_→c≠j1→c≠j2→s.heap.get? c=some o→h'.get? c=some o)→(∃o,h'.get? e=some o∧o.cls= .type "StopIteration")→E (.ref e) {s with heap:=h'}):
 wpAny (model prog w) A (Builtin.«zip.__next__» ⟨[.ref z],[]⟩) Q E s:=by
 show wpAny (model prog w) A (field (.ref z) 2>>=_) _ _ _
 refine wpAny_bind (wpAny_field (x:= .bool false) Z.z rfl rfl ?_)
 show wpAny (model prog w) A (field (.ref z) 3>>=_) _ _ _
 refine wpAny_bind (wpAny_field (x:= .ref ti) Z.z rfl rfl (wpAny_bind (wpAny_seqItems Z.ti rfl ?_)))
 show wpAny (model prog w) A (Builtin.SmallTypes.ownedTupleIsFree (.ref z)>>=_) _ _ _
 refine wpAny_bind ?_
 delta Builtin.SmallTypes.ownedTupleIsFree
 refine wpAny_bind (wpAny_field (x:= .none) Z.z rfl rfl (wpAny_pure ?_))
 simp only[if_true]
 refine wpAny_bind (wpAny_rule (wpAny_bind (wpAny_field (x:= .ref to_) Z.z rfl rfl ?_)))
 refine wpAny_bind (wpAny_setField_rec Z.z (by simp) fun g1 z1 m1=> ?_)
 replace z1:IsZip g1 z ti to_ .ellipsis:=z1
 refine wpAny_bind ?_
 simp only[List.forIn_cons,List.forIn_nil,List.zipIdx_cons,List.zipIdx_nil]
 refine wpAny_bind (wpAny_bind (wpAny_onRaise ?_))
 show wpAny (model prog w) A (Builtin.SmallTypes.nextOf (.ref j1)>>=_) _ _ _
 refine wpAny_bind (tZ hA (Z.j1.extBut m1.extBut D.i1z) (Z.t1.extBut m1.extBut D.l1z) en fun g2 e m2 he=> ?_)
 obtain⟨oe,ee,ce⟩:=he
 have z2:IsZip g2 z ti to_ .ellipsis:=m2 _ _ D.i1z.symm z1
 have ne:e≠z:=fun q=>by subst q;rw[z2] at ee;cases ee;simp at ce
 exact wpAny_setField_rec z2 (by simp) fun g3 _ m3=>k g3 e (fun c o c1 _ c3 _ q=>m3.extBut _ _ c1 (m2 _ _ c3 (m1.extBut _ _ c1 q))) ⟨oe,m3.extBut _ _ ne ee,ce⟩
theorem t6{z ti to_ j1 j2 t1 t2:Addr}{i:Nat}{vs us:Array Value}{x y a b:Value}{Q:Option Value→Shared→Prop}(D:ZipApart z ti to_ j1 j2 t1 t2)(Z:ZP s.heap z ti to_ j1 j2 t1 t2 i .none a b vs us)(ex:vs[i]? =some x)(ey:us[i]? =some y)
 (k:∀h',IsZip h' z ti to_ (rawInt s.heap.objs.size)→IsPair h' to_ x y→h'.IsTupleIter j1 t1 (i+1)→h'.IsTupleIter j2 t2 (i+1)→IsPair h' s.heap.objs.size x y→
  (∀c o,c≠z→c≠to_→c≠j1→c≠j2→s.heap.get? c=some o→h'.get? c=some o)→Q (some (.ref s.heap.objs.size)) {s with heap:=h'}):
 wpAny (model prog w) A (pyNext (.ref z)) Q E s:=by
 have ty:s.TypeIs (.ref z) "zip":=⟨_,Z.z,rfl⟩
 delta pyNext
 exact wpAny_bind (wpAny_attempt (wpAny_callSpecial?_slot (name:="__next__") ty F.slot_zip_next (wpAny_call_entry F.slot_zip_next ty F.entry_zip_next (t5 D Z ex ey fun h' a1 a2 a3 a4 a5 a6=>wpAny_pure (k h' a1 a2 a3 a4 a5 a6)) (F.args_zip_next_1 _))))
theorem t7{z ti to_ j1 j2 t1 t2:Addr}{i:Nat}{vs us:Array Value}{a b:Value}{Q:Option Value→Shared→Prop}(hA:A.handled=none)(D:ZipApart z ti to_ j1 j2 t1 t2)(Z:ZP s.heap z ti to_ j1 j2 t1 t2 i .none a b vs us)(en:vs[i]? =none)
 (k:∀h',(∀c o,c≠z→c≠to_→c≠j1→c≠j2→s.heap.get? c=some o→h'.get? c=some o)→Q none {s with heap:=h'}):wpAny (model prog w) A (pyNext (.ref z)) Q E s:=by
 have ty:s.TypeIs (.ref z) "zip":=⟨_,Z.z,rfl⟩
 delta pyNext
 refine wpAny_bind (wpAny_attempt (wpAny_callSpecial?_slot (name:="__next__") ty F.slot_zip_next (wpAny_call_entry F.slot_zip_next ty F.entry_zip_next (uU hA D Z en fun h' e kk he=> ?_) (F.args_zip_next_1 _))))
 obtain⟨oe,ee,ce⟩:=he
 exact wpAny_bind (wpAny_isInstance (T:="StopIteration") (b:=true) ⟨oe,ee,ce⟩ isSubtype_stop (wpAny_pure (k _ kk)))
end
abbrev tz1(h:Heap)(t1:Addr):Heap:=h.push {cls:= .type "tuple_iterator",data:= .fields #[.ref t1, .int 0 0]}
abbrev tz2(h:Heap)(t1 t2:Addr):Heap:=(tz1 h t1).push {cls:= .type "tuple_iterator",data:= .fields #[.ref t2, .int 0 0]}
abbrev tz3(h:Heap)(t1 t2:Addr):Heap:=(tz2 h t1 t2).push {cls:= .type "tuple",data:= .seq #[.ref h.objs.size, .ref (tz1 h t1).objs.size]}
abbrev tz4(h:Heap)(t1 t2:Addr):Heap:=(tz3 h t1 t2).push {cls:= .type "tuple",data:= .seq #[.none, .none]}
abbrev tz5(h:Heap)(t1 t2:Addr):Heap:=(tz4 h t1 t2).push {cls:= .type "zip",data:= .fields #[.none, .bool false, .bool false, .ref (tz2 h t1 t2).objs.size, .ref (tz3 h t1 t2).objs.size]}
theorem y6(t1 t2:Addr)(vs us:Array Value):Meets (Builtin.«zip.__new__» ⟨[.type "zip", .ref t1, .ref t2],[]⟩) (fun _ R s=>s.heap.IsTuple t1 vs∧s.heap.IsTuple t2 us∧R (.ok (.ret (.ref (tz4 s.heap t1 t2).objs.size))) {s with heap:=tz5 s.heap t1 t2}):=
 .of_wp fun prog w A R s h=>by
  obtain⟨hp,g,d,tk,os⟩:=s
  obtain⟨e1,e2,h⟩:=h
  have sub:=sub_zip
  have k1:Heap.IsTuple (Shared.heap ⟨hp,g,d,tk,os⟩) t1 vs:=e1
  have k2:Heap.IsTuple (Shared.heap ⟨hp.push {cls:= .type "tuple_iterator",data:= .fields #[.ref t1, .int 0 0]},g,d,tk,os⟩) t2 us:=Heap.IsTuple.push e2 _
  wp_walk using wpAny_pyIter_tuple k1,wpAny_pyIter_tuple k2
  exact⟨_,rfl,h⟩
section
variable{prog:Program}{w:World}{A:Around}{E:Value→Shared→Prop}{s:Shared}
theorem wM{t1 t2:Addr}{vs us:Array Value}{Q:Value→Shared→Prop}(e1:s.heap.IsTuple t1 vs)(e2:s.heap.IsTuple t2 us)
 (k:∀h',ZP h' (s.heap.objs.size+4) (s.heap.objs.size+2) (s.heap.objs.size+3) s.heap.objs.size (s.heap.objs.size+1) t1 t2 0 .none .none .none vs us→(∀c o,s.heap.get? c=some o→h'.get? c=some o)→Q (.ref (s.heap.objs.size+4)) {s with heap:=h'}):
 wpAny (model prog w) A (call (.type "zip") [.ref t1, .ref t2]) Q E s:=by
 refine callType_new F.called_zip (by decide) (F.typeCall_zip_2 _ _) (F.newCall_zip_2 _ _) (fun o=>F.args_object_init_3 o _ _) F.entry_zip_new (y6 t1 t2 vs us) ⟨e1,e2, ?_⟩
 have z1:(tz1 s.heap t1).objs.size=s.heap.objs.size+1:=Heap.size_push ..
 have z2:(tz2 s.heap t1 t2).objs.size=s.heap.objs.size+2:=by rw[Heap.size_push,z1]
 have z3:(tz3 s.heap t1 t2).objs.size=s.heap.objs.size+3:=by rw[Heap.size_push,z2]
 have z4:(tz4 s.heap t1 t2).objs.size=s.heap.objs.size+4:=by rw[Heap.size_push,z3]
 have up:∀c o,s.heap.get? c=some o→(tz5 s.heap t1 t2).get? c=some o:=fun c o e=>Heap.get?_push_of_some _ (Heap.get?_push_of_some _ (Heap.get?_push_of_some _ (Heap.get?_push_of_some _ (Heap.get?_push_of_some _ e))))
 have g5:(tz5 s.heap t1 t2).get? (tz4 s.heap t1 t2).objs.size=some _:=Heap.get?_push_size _ rfl
 have g4:(tz5 s.heap t1 t2).get? (tz3 s.heap t1 t2).objs.size=some _:=Heap.get?_push_of_some _ (Heap.get?_push_size _ rfl)
 have g3:(tz5 s.heap t1 t2).get? (tz2 s.heap t1 t2).objs.size=some _:=Heap.get?_push_of_some _ (Heap.get?_push_of_some _ (Heap.get?_push_size _ rfl))
 have g2:(tz5 s.heap t1 t2).get? (tz1 s.heap t1).objs.size=some _:=Heap.get?_push_of_some _ (Heap.get?_push_of_some _ (Heap.get?_push_of_some _ (Heap.get?_push_size _ rfl)))
 have g1:(tz5 s.heap t1 t2).get? s.heap.objs.size=some _:=Heap.get?_push_of_some _ (Heap.get?_push_of_some _ (Heap.get?_push_of_some _ (Heap.get?_push_of_some _ (Heap.get?_push_size _ rfl))))
 show _∧_
 rw[z4,z3,z2] at g5
 rw[z3] at g4
 rw[z2,z1] at g3
 rw[z1] at g2
 obtain⟨p1,x1,r1⟩:=e1
 obtain⟨p2,x2,r2⟩:=e2
 rw[z4]
 exact⟨⟨_,g5,rfl⟩,k (tz5 s.heap t1 t2) ⟨g5,g3,g4,⟨_,g1,rfl,rfl⟩,⟨_,g2,rfl,rfl⟩,⟨p1,up _ _ x1,r1⟩,⟨p2,up _ _ x2,r2⟩⟩ up⟩
end
def At(K:W.Frag)(l1 l2:Addr):It:=
 ⟨fun i H=>∃xs ys,SqT K H l1 xs∧SqT K H l2 ys∧i<xs.length∧i<ys.length,
  fun i H x H'=>∃T a b,H T=none∧x= .ref T∧H'=upd H T (.tup [a,b])∧(∀xs,SqT K H l1 xs→xs[i]? =some a)∧(∀ys,SqT K H l2 ys→ys[i]? =some b),
  fun i H=>∃xs ys,SqT K H l1 xs∧SqT K H l2 ys∧xs.length≤i⟩
def uV(z ti to_ j1 j2 l1 l2:Addr)(i:Nat)(h:Heap):Prop:=IsZip h z ti to_ .none∧IsPair h ti (.ref j1) (.ref j2)∧(∃a b,IsPair h to_ a b)∧h.IsTupleIter j1 l1 i∧h.IsTupleIter j2 l2 i
theorem pw{h h':Heap}{j t:Addr}{i:Nat}(u:h.IsTupleIter j t i)(k:∀o,h.get? j=some o→h'.get? j=some o):h'.IsTupleIter j t i:=by
 obtain⟨o,e,r⟩:=u
 exact⟨o,k o e,r⟩
theorem t8{P:Program}{w:World}{K:W.Frag}{elts:List Expr}{kk:Nat}{tpos:Pos}(z ti to_ j1 j2 l1 l2:Addr)(D:ZipApart z ti to_ j1 j2 l1 l2):
 Turn P w K (.Tuple elts kk tpos) (At K l1 l2) [z,ti,to_,j1,j2] z (uV z ti to_ j1 j2 l1 l2) where
 mem:=by simp
 obj:=fun i h st b hb=>by
  obtain⟨hz,hTI,⟨a,c,hTO⟩,⟨o1,e1,_,d1⟩,⟨o2,e2,_,d2⟩⟩:=st
  simp only[List.mem_cons,List.not_mem_nil,or_false] at hb
  rcases hb with rfl|rfl|rfl|rfl|rfl
  · exact⟨_,hz,fun v q=>by cases (show Data.fields _=Data.cell v from q)⟩
  · exact⟨_,hTI,fun v q=>by cases (show Data.seq _ _=Data.cell v from q)⟩
  · exact⟨_,hTO,fun v q=>by cases (show Data.seq _ _=Data.cell v from q)⟩
  · exact⟨_,e1,fun v q=>by rw[d1] at q;cases q⟩
  · exact⟨_,e2,fun v q=>by rw[d2] at q;cases q⟩
 keep:=fun i h h' st k=>by
  obtain⟨hz,hTI,⟨a,c,hTO⟩,h1,h2⟩:=st
  exact⟨k z (by simp) _ hz,k ti (by simp) _ hTI,⟨a,c,k to_ (by simp) _ hTO⟩,pw h1 fun o e=>k j1 (by simp) o e,pw h2 fun o e=>k j2 (by simp) o e⟩
 item:=by
  intro X hP hw hK hc i pins s σ H E I hf st hg
  subst hP hw hK
  obtain⟨xs,ys,q1,q2,g1,g2⟩:=hg
  obtain⟨its1,r1,p1,z1⟩:=I.tuple q1
  obtain⟨its2,r2,p2,z2⟩:=I.tuple q2
  obtain⟨u1,e1,ru1⟩:=r1.get (List.getElem?_eq_getElem g1)
  obtain⟨u2,e2,ru2⟩:=r2.get (List.getElem?_eq_getElem g2)
  obtain⟨hz,hTI,⟨a,c,hTO⟩,h1,h2⟩:=st
  refine t6 (x:=u1) (y:=u2) D ⟨hz,hTI,hTO,h1,h2,p1,p2⟩ (by simpa using e1) (by simpa using e2) fun h1' a1 a2 a3 a4 a5 hk=>⟨_,rfl, ?_⟩
  refine wpAny_letOwnedTupleGo_zip a1 fun h2' hz' hs'=> ?_
  have lt:∀{c o},s.heap.get? c=some o→s.heap.objs.size≠c:=fun e=>Nat.ne_of_gt (Heap.lt_size e)
  have Tz:s.heap.objs.size≠z:=lt hz
  have kz:∀b o,b≠z→h1'.get? b=some o→h2'.get? b=some o:=fun b o hb e=>hs'.extBut _ _ hb e
  have I':Inv X pins σ (upd H s.heap.objs.size (.tup [xs[i],ys[i]])) {s with heap:=h2'}:=by
   refine I.turnedNew (t':=s.toks) (ch:=[z,to_,j1,j2]) (fun b o hb e=> ?_) (fun b hb=>hf b (by
    simp only[List.mem_cons,List.not_mem_nil,or_false] at hb ⊢
    rcases hb with rfl|rfl|rfl|rfl<;>simp)) (Nat.le_refl _) ?_
   · simp only[List.mem_cons,List.not_mem_nil,or_false,not_or] at hb
     exact kz b o hb.1 (hk b o hb.1 hb.2.1 hb.2.2.1 hb.2.2.2 e)
   · exact⟨(by show 2≤sizeLine;decide),[u1,u2], .cons ru1 (.cons ru2 .nil),_,kz _ _ Tz a5,rfl,_,rfl⟩
  refine⟨.ref s.heap.objs.size,_,I',rfl,⟨s.heap.objs.size,xs[i],ys[i],I.hok.fresh (Nat.le_refl _),rfl,rfl,fun xs' q'=> ?_,fun ys' q'=> ?_⟩,⟨hz', ?_,⟨_,_,kz _ _ D.TOz a2⟩, ?_, ?_⟩,fun b hb=> ?_⟩
  · rw[I.tuple_inj q' q1];exact List.getElem?_eq_getElem g1
  · rw[I.tuple_inj q' q2];exact List.getElem?_eq_getElem g2
  · exact kz _ _ D.TIz (hk _ _ D.TIz D.TITO D.TIi1 D.TIi2 hTI)
  · exact pw a3 fun o e=>kz _ _ D.i1z e
  · exact pw a4 fun o e=>kz _ _ D.i2z e
  · have n:=(hf b hb).1
    simp only[List.mem_cons,List.not_mem_nil,or_false] at hb
    have ob:∃o,s.heap.get? b=some o:=by
     obtain⟨o1,x1,_⟩:=h1
     obtain⟨o2,x2,_⟩:=h2
     rcases hb with rfl|rfl|rfl|rfl|rfl
     · exact⟨_,hz⟩
     · exact⟨_,hTI⟩
     · exact⟨_,hTO⟩
     · exact⟨_,x1⟩
     · exact⟨_,x2⟩
    obtain⟨o,eo⟩:=ob
    rw[bO (Ne.symm (lt eo))]
    exact n
 done:=by
  intro X hP hw hK hc i pins s σ H E I hf st hg
  subst hP hw hK
  obtain⟨xs,ys,q1,q2,g⟩:=hg
  obtain⟨its1,r1,p1,z1⟩:=I.tuple q1
  obtain⟨its2,r2,p2,z2⟩:=I.tuple q2
  obtain⟨hz,hTI,⟨a,c,hTO⟩,h1,h2⟩:=st
  have l1':=r1.length
  refine t7 (I.ok.hd hc) D ⟨hz,hTI,hTO,h1,h2,p1,p2⟩ (Array.getElem?_eq_none (by rw[List.size_toArray];omega)) fun h' hk=>⟨rfl, ?_⟩
  refine I.turnedL (t':=s.toks) (ch:=[z,to_,j1,j2]) (fun b o hb e=> ?_) (fun b hb=>hf b (by
   simp only[List.mem_cons,List.not_mem_nil,or_false] at hb ⊢
   rcases hb with rfl|rfl|rfl|rfl<;>simp))
  simp only[List.mem_cons,List.not_mem_nil,or_false,not_or] at hb
  exact hk b o hb.1 hb.2.1 hb.2.2.1 hb.2.2.2 e
 self:=fun _ _ _ _ _ st h=>wpAny_pyIter_zip st.1 h
def x8(K:W.Frag)(ta:TA):TI:=fun σ H R=>ta σ H fun vs H1=>∃l1 l2 xs ys,vs=[.ref l1, .ref l2]∧SqT K H1 l1 xs∧SqT K H1 l2 ys∧R (At K l1 l2) H1
theorem wN{X:Cx}{a b:Expr}{ta:TA}{p pos tpos:Pos}{elts:List Expr}{kk:Nat}(hg:Gl X "zip")(hm:X.mg "zip"=none)(ha:PA X [a,b] ta)(hs:starEach [a,b] X.env=[(false,eval a X.env),(false,eval b X.env)]:=by rfl)(hs2:starEach [b] X.env=[(false,eval b X.env)]:=by rfl):
 PI X (.Tuple elts kk tpos) (.Call (.Name "zip" p) [a,b] [] pos) (x8 X.K ta):=by
 intro pins s σ H R I h
 refine Call_ (io I hg hm (show bootBuiltins "zip"=some (.type "zip") from by decide+kernel) (PyProof.Rows.callWith_type1 (thn (ha pos pins s σ H _ I h) fun us s1 ⟨vs,H1,I1,r1,q1⟩=> ?_) (by rw[hs,hs2]) (by rw[hs2];rfl)))
 obtain⟨l1,l2,xs,ys,e,q1,q2,q⟩:=q1
 subst e
 obtain⟨u1,u2,rfl,ru1,ru2⟩:=r1.two
 cases ru1
 cases ru2
 obtain⟨its1,v1,p1,z1⟩:=I1.tuple q1
 obtain⟨its2,v2,p2,z2⟩:=I1.tuple q2
 have b1:l1<s1.heap.objs.size:=by obtain⟨o,e,_⟩:=p1;exact Heap.lt_size e
 have b2:l2<s1.heap.objs.size:=by obtain⟨o,e,_⟩:=p2;exact Heap.lt_size e
 refine wM p1 p2 fun h' Z hk=> ?_
 have D:=kT b1 b2
 refine wpAny_pyIter_zip Z.z ?_
 refine⟨_,_,uV _ _ _ _ _ _ _,_,H1,rfl,I1.kept (t':=s1.toks) hk,t8 _ _ _ _ _ _ _ D,⟨Z.z,Z.ti,⟨_,_,Z.to_⟩,Z.j1,Z.j2⟩,fun b hb=> ?_,q⟩
 have hb':s1.heap.objs.size≤b:=by
  simp only[List.mem_cons,List.not_mem_nil,or_false] at hb
  rcases hb with rfl|rfl|rfl|rfl|rfl
  · exact Nat.le_add_right _ _
  · exact Nat.le_add_right _ _
  · exact Nat.le_add_right _ _
  · exact Nat.le_refl _
  · exact Nat.le_add_right _ _
 exact I1.fpOk hb' (I1.hok.fresh hb')
end L2
namespace L2
open PySem PySem.Spec PyProof.Rows
section
variable{X:Cx}{pins:List (Addr×Obj)}{σ:St}{H:Hp}{s:Shared}
theorem ki{elt iter:Expr}{x:Str}{px:Pos}{ifs:List Expr}{scope:Scope}{pos:Pos}{wi:TI}{tc:TT}{te:TE}(cn:List Str)(cap:List Nat)(S:CompScope X scope x cn cap)(hc:X.calm=true)
 (hi:PI X (.Name x px) iter wi)(hin:∀cl C s₀ H₀ ex,rF (cv X scope (x::cn) cl C s₀ H₀ ex) ifs tc)(he:∀cl C s₀ H₀ ex,PE (cv X scope (x::cn) cl C s₀ H₀ ex) elt te)
 {y:Str}{py:Pos}{apos:Pos}(iy:Nat)(hN:X.N.Nodup)(hiy:X.N[iy]? =some y)(hxy:Loc X.env.scope y)(hsw:swapsWith (.ListComp elt [⟨.Name x px,iter,ifs,0⟩] scope pos) (some (.Name y py)) apos.line X.env=pure true:=by rfl)(hfy:X.fn y=true∨X.env.scope.names.lookup y=some .local:=by first|exact .inl rfl|exact .inr rfl|assumption)
 (hs:∀z,foldedSetIterable iter X.env z=pure z:=by intro _;rfl):PS X (.Assign [.Name y py] (.ListComp elt [⟨.Name x px,iter,ifs,0⟩] scope pos) apos) (qq (sw wi tc te cap) (iq iy)):=by
 intro pins s σ H D I h
 rw[exec_Assign_Name_used _ _ _ _ hsw]
 refine wpAny_bind (wpAny_standAt (wpAny_bind ?_))
 show wpAny _ _ (comprehension (.ListComp elt [⟨.Name x px,iter,ifs,0⟩] scope pos) scope X.env (firstIterPos [⟨.Name x px,iter,ifs,0⟩] pos) (newList []) false (firstIter [⟨.Name x px,iter,ifs,0⟩] X.env) (some (assign (.Name y py) X.env))>>=fun _=>pure ()) _ _ _
 refine wpAny_bind (wpAny_mono (Q:=fun _ s'=>∃σ' H',Inv X pins σ' H' s'∧D.nx σ' H') ?_ (fun _ s' q=>wpAny_pure (wpAny_pure q)) fun _ _ z=>z)
 refine om cn cap S hc hi hin he hs I h fun d C H3 s4 m J fC hn qn r=> ?_
 refine wpAny_assign_Name (nY J hN hiy hxy (v:= .ref d) rfl (fun s5 I6 hh1=> ?_) hfy)
 obtain⟨a,sb,ha⟩:=hh1
 have nC:C≠a:=by
  rcases ha with ha|ha
  · rw[ha];exact fC.2.1
  · exact(fC.2.2.2.2.1 _ _ ha).symm
 obtain⟨oC,esC,epC,hoC,rC⟩:=hn
 refine⟨m,⟨oC,esC,epC,sb.extBut _ _ nC hoC,rC⟩,fun h' hsb=>⟨_,H3, ?_,qn⟩⟩
 refine I6.turnedL (t':=s5.toks) (ch:=[C]) (fun b o hb e=>hsb.extBut b o (by simpa using hb) e) (fun b hb=> ?_)
 cases List.mem_singleton.mp hb
 exact fC
end
section
variable{X:Cx}
def uW(K:W.Frag):R2:=fun x y H Q=>∃a b ys,x= .ref a∧y= .ref b∧SqT K H a []∧SqT K H b ys∧Q (.ref b) H
theorem uX:OpR X (binaryOp .Add) (uW X.K):=by
 intro pins s σ H x y v u Q I rx ry h
 obtain⟨a,b,ys,rfl,rfl,ha,hb,q⟩:=h
 cases rx
 cases ry
 obtain⟨its,r1,p1,_⟩:=I.tuple ha
 obtain⟨its2,r2,p2,_⟩:=I.tuple hb
 have hv:its=[]:=r1.nil_iff.mpr rfl
 obtain⟨⟨cls,dd,data,sl⟩,ho,hc,n,hd⟩:=id p1
 obtain⟨⟨cls2,dd2,data2,sl2⟩,ho2,hc2,n2,hd2⟩:=id p2
 simp only at hc hd hc2 hd2
 subst hc hd hc2 hd2
 exact concat_meets ⟨_,ho,rfl⟩ ⟨_,ho2,rfl⟩ noFill_tuple_add seq_tuple_add PySem.F.slot_tuple_add PySem.F.entry_tuple_add (PySem.F.args_tuple_add_2 _ _)
  (tuple_addW0 a b its.toArray its2.toArray n n2 dd dd2 sl sl2 (by simp[hv])) ⟨ho,ho2,⟨.ref b,H,I,rfl,q⟩⟩
def uY(K:W.Frag):R2:=fun x y H Q=>xW x y H Q∨(xT K x y H Q∨uW K x y H Q)
theorem bW:OpR X (binaryOp .Add) (uY X.K):=wE.or (wx.or uX)
theorem jA{K:W.Frag}(h:X.K=K):OpR X (binaryOp .Add) (uY K):=h▸bW
abbrev Au:R2:=fun x y H Q=>(y= .non∧Q (.bl (decide (x= .non))) H)∨∃b,y= .bl b∧Q (.bl (decide (x= .bl b))) H
theorem y7:OpR X (compareOp .Is) (fun x y H Q=>∃b,y= .bl b∧Q (.bl (decide (x= .bl b))) H):=by
 intro pins s σ H x y v u Q I rx ry h
 obtain⟨b,rfl,q⟩:=h
 cases ry
 have fin:∀v,compareOp .Is v (.bool b)=pure (.bool (v== .bool b))→(v== .bool b)=decide (x= .bl b)→wpAny (model X.prog X.w) X.A (compareOp .Is v (.bool b)) (EP X pins σ Q) X.xe s:=fun v e1 e2=>by
  rw[e1]
  exact wpAny_pure (cw I q e2.symm)
 cases x<;>first
  |(cases rx;exact fin _ rfl (by first|rfl|(rename_i c;cases c<;>cases b<;>rfl)))
  |(obtain⟨t,rfl⟩:=rx;exact fin _ rfl rfl)
theorem rJ:OpR X (compareOp .Is) Au:=yC.or y7
theorem uZ{K:W.Frag}{tg l:Expr}{tl:TE}(h:X.K=K)(hl:PE X l tl):PI X tg l (se K tl):=h▸cA hl
theorem wO{K:W.Frag}{tg l:Expr}{tl:TE}(h:X.K=K)(hl:PE X l tl):PI X tg l (wo K tl):=h▸cT hl
end
section
variable{prog:Program}{w:World}{A:Around}{E:Value→Shared→Prop}{s:Shared}{it l:Addr}{its:Array Value}
end
section
variable{κ:Type}[DecidableEq κ]
def kW(kvs:List (κ×V))(k:κ):Option V:=(kvs.find? fun kv=>decide (kv.1=k)).map (·.2)
def x9(kvs:List (κ×V))(k:κ):List (κ×V):=kvs.filter fun kv=>decide (kv.1≠k)
theorem mQ{p:κ×V}{r:List (κ×V)}{k:κ}(e:p.1=k):kW (p::r) k=some p.2:=by simp[kW,List.find?_cons,e]
theorem mR{p:κ×V}{r:List (κ×V)}{k:κ}(e:¬p.1=k):kW (p::r) k=kW r k:=by simp[kW,List.find?_cons,e]
theorem RelO.getD{o:Option V}{u:Option Value}{d:V}{d':Value}(r:RelO o u)(rd:RelV d d'):RelV (o.getD d) (u.getD d'):=by
 cases o with
 |none=>cases u with
  |none=>exact rd
  |some _=>exact(show False from r).elim
 |some _=>cases u with
  |none=>exact(show False from r).elim
  |some _=>exact r
theorem KV.val{kvs:List (κ×V)}{vs:List (κ×Value)}(r:KV kvs vs)(k:κ):RelO (kW kvs k) (valueAt vs k):=by
 unfold KV at r
 induction r with
 |nil=>exact True.intro
 | @cons p q ps qs h t ih=>
   obtain⟨h1,h2⟩:=h
   by_cases e:p.1=k
   · have e':q.1=k:=h1.symm.trans e
     have b:valueAt (q::qs) k=some q.2:=by simp[valueAt,List.find?_cons,e']
     rw[mQ e,b];exact h2
   · have e':¬q.1=k:=fun z=>e (h1.trans z)
     have b:valueAt (q::qs) k=valueAt qs k:=by simp[valueAt,List.find?_cons,e']
     rw[mR e,b];exact ih
theorem KV.any{kvs:List (κ×V)}{vs:List (κ×Value)}(r:KV kvs vs)(k:κ):(kvs.any fun kv=>decide (kv.1=k))=vs.any fun kv=>decide (kv.1=k):=by
 unfold KV at r
 induction r with
 |nil=>rfl
 |cons h t ih=>rw[List.any_cons,List.any_cons,ih,h.1]
theorem KV.drop{kvs:List (κ×V)}{vs:List (κ×Value)}(r:KV kvs vs)(k:κ):KV (x9 kvs k) (without vs k):=by
 unfold KV at r ⊢
 unfold x9 without
 induction r with
 |nil=>exact .nil
 | @cons p q ps qs h t ih=>
   obtain⟨h1,h2⟩:=h
   rw[List.filter_cons,List.filter_cons]
   by_cases e:p.1=k
   · have a:¬decide (p.1≠k)=true:=by simp[e]
     have b:¬decide (q.1≠k)=true:=by simp[h1.symm.trans e]
     rw[if_neg a,if_neg b];exact ih
   · have e':¬q.1=k:=fun z=>e (h1.trans z)
     have a:decide (p.1≠k)=true:=by simp[e]
     have b:decide (q.1≠k)=true:=by simp[e']
     rw[if_pos a,if_pos b];exact .cons ⟨h1,h2⟩ ih
theorem KV.keys{kvs:List (κ×V)}{vs:List (κ×Value)}(r:KV kvs vs):kvs.map (·.1)=vs.map (·.1):=by
 unfold KV at r
 induction r with
 |nil=>rfl
 |cons h t ih=>rw[List.map_cons,List.map_cons,ih,h.1]
theorem KV.length{kvs:List (κ×V)}{vs:List (κ×Value)}(r:KV kvs vs):kvs.length=vs.length:=Paired.length r
end
theorem u0{P:Program}{w:World}{k:Key}{u:Value}(r:RelV (kV k) u):(eN P w).is k u=true:=by
 cases k with
 |inl i=>obtain⟨t,e⟩:=(show ∃t,u=Value.int i t from r);subst e;exact ql P w i t
 |inr x=>obtain⟨t,e⟩:=(show ∃t,u=Value.str x t from r);subst e;exact qm P w x t
theorem oo{P:Program}{w:World}:∀{ks:List Key} {us:List Value},Vals (ks.map kV) us→ItemsAre (eN P w) ks us
 |[],_,r=>by rw[List.map_nil] at r;cases r;exact .nil
 |k::ks,_,r=>by
  rw[List.map_cons] at r
  cases r with
  |cons h t=>exact .cons (u0 h) (oo t)
abbrev KT(H:Hp):List (List Key×V)→List (List Key×Addr×Value)→Prop:=Paired fun p q=>p.1=q.1∧H q.2.1=some (.tup (p.1.map kV))∧RelV p.2 q.2.2
theorem KT.val{H:Hp}{kvs:List (List Key×V)}{xs:List (List Key×Addr×Value)}(r:KT H kvs xs)(k:List Key):RelO (kW kvs k) ((atKey xs k).map (·.2)):=by
 induction r with
 |nil=>exact True.intro
 | @cons p q ps qs h t ih=>
   obtain⟨h1,_,h2⟩:=h
   by_cases e:p.1=k
   · have e':q.1=k:=h1.symm.trans e
     have b:atKey (q::qs) k=some q.2:=by simp[atKey,List.find?_cons,e']
     rw[mQ e,b];exact h2
   · have e':¬q.1=k:=fun z=>e (h1.trans z)
     have b:atKey (q::qs) k=atKey qs k:=by simp[atKey,List.find?_cons,e']
     rw[mR e,b];exact ih
theorem KT.keeps{H H':Hp}{kvs:List (List Key×V)}{xs:List (List Key×Addr×Value)}(r:KT H kvs xs)(ht:∀b ys,H b=some (.tup ys)→H' b=some (.tup ys)):KT H' kvs xs:=
 Paired.mapP r fun _ _ z=>⟨z.1,ht _ _ z.2.1,z.2.2⟩
section
variable{P:Program}{w:World}{H:Hp}{h:Heap}{a:Addr}
theorem ya{u:HO}(ok:HOk P w H h)(e:Rd H a u):ObjOk P w H h a u:=e.ok ok
theorem yb{kvs:List (Key×V)}(ok:HOk P w H h)(e:Rd H a (.dK kvs)):kvs.length≤sizeLine∧(a==sysModules)=false∧∃vs,KV kvs vs∧h.DictOf (eN P w) a vs:=
 show ObjOk P w H h a (.dK kvs) from ya ok e
theorem u3{ks:List Key}(ok:HOk P w H h)(e:H a=some (.tup (ks.map kV))):(tupleKind (eN P w)).is h ks a:=by
 obtain⟨_,its,r,o,h1,h2,n,h3⟩:=(show ObjOk P w H h a (.tup (ks.map kV)) from ok a _ e)
 exact⟨o,its.toArray,n,h1,h2,h3,by simpa using oo r⟩
theorem yc{kvs:List (List Key×V)}(ok:HOk P w H h)(e:Rd H a (.dT kvs)):kvs.length≤sizeLine∧(a==sysModules)=false∧
 ∃xs,KT H kvs xs∧h.DictOfH (tupleKind (eN P w)) a xs:=by
 obtain⟨z,y,xs,r,o,es,ep,h1,h2,h3,h4,h5⟩:=(show ObjOk P w H h a (.dT kvs) from ya ok e)
 refine⟨z,y,xs,r,o,es,ep,h1,h2,h3,h4,fun x hx=> ?_,h5⟩
 have all:∀{l:List (List Key×V)} {m:List (List Key×Addr×Value)},KT H l m→∀x∈m,(tupleKind (eN P w)).is h x.1 x.2.1:=by
  intro l m q
  induction q with
  |nil=>intro x hx;exact nomatch hx
  | @cons p q ps qs hq t ih=>
    intro x hx
    rcases List.mem_cons.mp hx with e|hx
    · subst e
      exact u3 ok (by rw[←hq.1];exact hq.2.1)
    · exact ih x hx
 exact all r x hx
end
def DGet(H:Hp)(a:Addr)(y:V)(r:Option V):Prop:=
 (∃kvs k,Rd H a (.dK kvs)∧y=kV k∧r=kW kvs k)∨∃kvs k b,Rd H a (.dT kvs)∧y= .ref b∧H b=some (.tup (k.map kV))∧r=kW kvs k
theorem DGet.k{H:Hp}{a:Addr}{kvs:List (Key×V)}{k:Key}(e:H a=some (.dK kvs)):DGet H a (kV k) (kW kvs k):= .inl ⟨kvs,k, .inl e,rfl,rfl⟩
theorem DGet.t{H:Hp}{a b:Addr}{kvs:List (List Key×V)}{k:List Key}(e:H a=some (.dT kvs))(eb:H b=some (.tup (k.map kV))):DGet H a (.ref b) (kW kvs k):= .inr ⟨kvs,k,b, .inl e,rfl,eb,rfl⟩
section
variable{X:Cx}{pins:List (Addr×Obj)}{σ:St}{H:Hp}{s:Shared}{a:Addr}{y v:V}{u r:Value}{o:Option V}{A:Around}{E:Value→Shared→Prop}
theorem Inv.big(I:Inv X pins σ H s):sysModules<s.heap.objs.size:=by
 have h:mainGlobals<s.heap.objs.size:=(I.mod.glob.keeps I.bk).lt
 exact Nat.lt_trans (by decide) h
theorem t9{Q:Value→Shared→Prop}(hu:A.units+1<cLine)(I:Inv X pins σ H s)(g:DGet H a y (some v))(ry:RelV y u)(h:∀w' s',Inv X pins σ H s'→RelV v w'→Q w' s'):
 wpAny (model X.prog X.w) A (getItem (.ref a) u) Q E s:=by
 rcases g with⟨kvs,k,e,ey,l⟩|⟨kvs,k,b,e,ey,eb,l⟩
 · subst ey
   obtain⟨z,hd,vs,rel,dd⟩:=yb I.hok e
   obtain⟨w',hw,rw'⟩:=RelO.some_of (v:=v) (o:=valueAt vs k) (by rw[l];exact rel.val k)
   exact wpAny_getItem_of (u0 ry) dd.mapOf hw (h w' _ (I.tok _) rw')
 · subst ey
   cases (show u=Value.ref b from ry)
   obtain⟨z,hd,xs,rel,dd⟩:=yc I.hok e
   obtain⟨w',hw,rw'⟩:=RelO.some_of (v:=v) (o:=(atKey xs k).map (·.2)) (by rw[l];exact rel.val k)
   obtain⟨p,hp,hp2⟩:=Option.map_eq_some_iff.mp hw
   refine wpAny_getItem_heap (tupleKind_room_in1 hu) (u3 I.hok eb) dd hp ?_
   rw[hp2]
   exact h w' _ (I.tok _) rw'
theorem y8{P:Program}{w:World}{H':Hp}{h':Heap}{kvs:List (Key×V)}{vs:List (Key×Value)}(z:kvs.length≤sizeLine)(hd:(a==sysModules)=false)(rel:KV kvs vs)(dd:h'.DictOf (eN P w) a vs):
 ObjOk P w H' h' a (.dK kvs):=⟨z,hd,vs,rel,dd⟩
end
section
variable{X:Cx}{pins:List (Addr×Obj)}{σ:St}{H:Hp}{s:Shared}{a:Addr}{kvs:List (Key×V)}{k:Key}{u:Value}{A:Around}{E:Value→Shared→Prop}
end
def Av(i:Expr):Prop:=∀ov iv,subscripted i false ov iv=operate [ov,iv] (getItem ov iv)
theorem wP{prog:Program}{w:World}{A:Around}{E:Value→Shared→Prop}{s:Shared}{env:Env}{value slice:Expr}{pos:Pos}{T id:String}{Q:Value→Shared→Prop}
 (hl:typeLookup (.type T) "__getitem__"=pure (some (.builtin id)))(hs:Av slice)
 (h:wpAny (model prog w) A (eval value env) (fun o s₁=>wpAny (model prog w) A (eval slice env) (fun i s₂=>s₂.TypeIs o T∧wpAny (model prog w) A (getItem o i) Q E s₂) E s₁) E s):
 wpAny (model prog w) A (eval (.Subscript value slice pos) env) Q E s:=by
 refine Subscript_ (wpAny_mono h (fun o s₁ h₁=>wpAny_mono h₁ (fun i s₂ h₂=> ?_) fun _ _ x=>x) fun _ _ x=>x)
 obtain⟨hT,h₂⟩:=h₂
 unfold subscriptTail
 refine wpAny_bind ?_
 rw[getitemInPython_of_ne hT.not_modules]
 refine wpAny_bind (wpAny_specialOf hT hl ?_)
 have fin:wpAny (model prog w) A (subscripted slice false o i) (fun r s₃=>wpAny (model prog w) A (letTemporaryGo value o r>>=fun _=>pure r) Q E s₃) E s₂:=by
  rw[hs o i]
  exact wpAny_operating (wpAny_mono h₂ (fun r s₃ h₃=>wpAny_bind (wpAny_letTemporaryGo (wpAny_pure h₃))) fun _ _ x=>x)
 first
  |exact wpAny_pure (wpAny_bind fin)
  |exact wpAny_bind (wpAny_pure (wpAny_bind fin))
  |exact wpAny_bind fin
theorem qC{X:Cx}{pins:List (Addr×Obj)}{σ:St}{H:Hp}{s:Shared}{a:Addr}{y:V}{o:Option V}(I:Inv X pins σ H s)(g:DGet H a y o):s.TypeIs (.ref a) "dict":=by
 rcases g with⟨kvs,k,e,_,_⟩|⟨kvs,k,b,e,_,_,_⟩
 · obtain⟨_,_,vs,_,dd⟩:=yb I.hok e
   exact dd.typeIs
 · obtain⟨_,_,xs,_,dd⟩:=yc I.hok e
   exact dd.typeIs
def yd(td ty:TE):TE:=fun σ H Q=>td σ H fun x H1=>ty σ H1 fun y H2=>∃a v,x= .ref a∧DGet H2 a y (some v)∧Q v H2
section
variable{X:Cx}{o i e value:Expr}{pos pos' tpos:Pos}{td ty tv:TE}
theorem sE(hu:X.A.units+1<cLine)(ho:PE X o td)(hi:PE X i ty)(hs:Av i):PE X (.Subscript o i pos) (yd td ty):=by
 intro pins s σ H Q I h
 refine wP PySem.F.slot_dict_getitem.lookup hs (thn (ho pins s σ H _ I h) fun u s1 ⟨x,H1,I1,rx,q1⟩=>thn (hi pins s1 σ H1 _ I1 q1) fun iv s2 ⟨y,H2,I2,ry,a,v,ex,g,q2⟩=> ?_)
 subst ex
 obtain rfl:u=Value.ref a:=rx
 exact⟨qC I2 g,t9 hu I2 g ry fun w' s3 I3 rw'=>⟨v,H2,I3,rw',q2⟩⟩
end
section
variable{X:Cx}{pos:Pos}
end
structure M1(X:Cx)(o:Expr)(m:Str)(apos:Pos)(e:Expr)(cpos:Pos):Prop where
 base:attributeBase o m X.env (eval o X.env)=eval o X.env
 few:((backTo cpos (starEach [e] X.env)).all (fun x=> !x.1)&&(backToKw cpos (keywordEach [] X.env)).all (fun x=>x.1.isSome)
  &&decide (([e]:List Expr).length+([]:List Keyword).length+(if([]:List Keyword).isEmpty then 0 else 1)<30))=true
 line:(apos.endLine==cpos.line)=true
 trees:backTo cpos (starEach [e] X.env)=[(false,eval e X.env)]
structure M2(X:Cx)(o:Expr)(m:Str)(apos:Pos)(e f:Expr)(cpos:Pos):Prop where
 base:attributeBase o m X.env (eval o X.env)=eval o X.env
 few:((backTo cpos (starEach [e,f] X.env)).all (fun x=> !x.1)&&(backToKw cpos (keywordEach [] X.env)).all (fun x=>x.1.isSome)
  &&decide (([e,f]:List Expr).length+([]:List Keyword).length+(if([]:List Keyword).isEmpty then 0 else 1)<30))=true
 line:(apos.endLine==cpos.line)=true
 trees:backTo cpos (starEach [e,f] X.env)=[(false,eval e X.env),(false,eval f X.env)]
def IsD(H:Hp)(a:Addr):Prop:=(∃kvs,Rd H a (.dK kvs))∨∃kvs,Rd H a (.dT kvs)
section
variable{X:Cx}{pins:List (Addr×Obj)}{σ:St}{H:Hp}{s:Shared}{a:Addr}{y d:V}{u r:Value}{o:Option V}{A:Around}{E:Value→Shared→Prop}
end
section
variable{X:Cx}{o e f:Expr}{apos cpos:Pos}{td ty tx:TE}
end
section
variable{X:Cx}{pins:List (Addr×Obj)}{σ:St}{H:Hp}{s:Shared}{a:Addr}{kvs:List (Key×V)}{A:Around}{E:Value→Shared→Prop}
end
section
variable{X:Cx}{pins:List (Addr×Obj)}{σ:St}{H:Hp}{s:Shared}{a:Addr}{y:V}{u:Value}{A:Around}{E:Value→Shared→Prop}
end
section
variable{prog:Program}{w:World}{A:Around}{E:Value→Shared→Prop}{s:Shared}{a it:Addr}{es:Array DictEntry}{ep i:Nat}
end
section
variable{X:Cx}{a b c d:Expr}{ta tb tc td:TE}{pos:Pos}
end
theorem kX{us:List Value}{n:Nat}(h:us.length=n+1):∃a r,us=a::r:=by
 cases us with
 |nil=>cases h
 |cons a r=>exact⟨a,r,rfl⟩
theorem us1{us:List Value}(h:us.length=1):∃a,us=[a]:=by
 obtain⟨a,us,rfl⟩:=kX h
 exact⟨a,by rw[List.eq_nil_of_length_eq_zero (Nat.succ.inj h)]⟩
theorem us2{us:List Value}(h:us.length=2):∃a b,us=[a,b]:=by
 obtain⟨a,us,rfl⟩:=kX h
 obtain⟨b,rfl⟩:=us1 (Nat.succ.inj h)
 exact⟨a,b,rfl⟩
theorem us3{us:List Value}(h:us.length=3):∃a b c,us=[a,b,c]:=by
 obtain⟨a,us,rfl⟩:=kX h
 obtain⟨b,c,rfl⟩:=us2 (Nat.succ.inj h)
 exact⟨a,b,c,rfl⟩
theorem us4{us:List Value}(h:us.length=4):∃a b c d,us=[a,b,c,d]:=by
 obtain⟨a,us,rfl⟩:=kX h
 obtain⟨b,c,d,rfl⟩:=us3 (Nat.succ.inj h)
 exact⟨a,b,c,d,rfl⟩
theorem us5{us:List Value}(h:us.length=5):∃a b c d e,us=[a,b,c,d,e]:=by
 obtain⟨a,us,rfl⟩:=kX h
 obtain⟨b,c,d,e,rfl⟩:=us4 (Nat.succ.inj h)
 exact⟨a,b,c,d,e,rfl⟩
theorem us6{us:List Value}(h:us.length=6):∃a b c d e f,us=[a,b,c,d,e,f]:=by
 obtain⟨a,us,rfl⟩:=kX h
 obtain⟨b,c,d,e,f,rfl⟩:=us5 (Nat.succ.inj h)
 exact⟨a,b,c,d,e,f,rfl⟩
end L2
namespace PD
open PySem L2
inductive Cl where
 |Open|Bridge|Road|Cart|Trip|Day
 deriving DecidableEq
inductive Fl where
 |length|name|bears|wide|most|pieces|rounds|shuts|speed|wheels|cart|way|start|crossings|ended|road|loads|sends
 deriving DecidableEq
def Cl.s:Cl→Str
 | .Open=>"Open"| .Bridge=>"Bridge"| .Road=>"Road"| .Cart=>"Cart"| .Trip=>"Trip"| .Day=>"Day"
def Fl.s:Fl→Str
 | .length=>"length"| .name=>"name"| .bears=>"bears"| .wide=>"wide"| .most=>"most"| .pieces=>"pieces"| .rounds=>"rounds"| .shuts=>"shuts"
 | .speed=>"speed"| .wheels=>"wheels"| .cart=>"cart"| .way=>"way"| .start=>"start"| .crossings=>"crossings"| .ended=>"ended"| .road=>"road"| .loads=>"loads"| .sends=>"sends"
def Cl.fs:Cl→List Fl
 | .Open=>[.length]| .Bridge=>[.name, .length, .bears, .wide, .most]| .Road=>[.pieces, .rounds, .shuts]| .Cart=>[.name, .speed, .wheels]
 | .Trip=>[.cart, .way, .start, .crossings, .ended]| .Day=>[.road, .loads, .sends]
inductive D where
 |non|bl (b:Bool)|int (i:Int)|str (x:Str)
 |tup (xs:List D)|kt (xs:List D)|lst (xs:List D)|fz (xs:List D)
 |ob (c:Cl) (fs:List (Fl×D))
 |dk (ks:List Key) (ds:List D)|dt (ks:List (List Key)) (ds:List D)
def CF(K:W.Frag)(ns:List Str)(c:Cl):Prop:=PKd K ns (clA K c.s) [c.s] (c.fs.map Fl.s)
def KT(K:W.Frag)(a:Addr)(xs:List V):Prop:=∃(o:Obj) (its:Array Value) (n:Nat),K.lookup a=some o∧o.cls= .type "tuple"∧o.data= .seq its n∧its.size≤sizeLine∧Vals xs its.toList
def FZ(K:W.Frag)(H:Hp)(a:Addr)(xs:List V):Prop:=(∃o:Obj,H a=some (.frz o (.lst xs)))∨∃(o:Obj) (its:Array Value) (n:Nat),K.lookup a=some o∧o.cls= .type "list"∧o.dict=none∧o.data= .seq its n∧its.size≤sizeLine∧Vals xs its.toList
mutual
inductive Rd(K:W.Frag)(ns:List Str)(L:Addr→Prop)(H:Hp):V→D→Prop
 |non:Rd K ns L H .non .non
 |bl (b:Bool):Rd K ns L H (.bl b) (.bl b)
 |int (i:Int):Rd K ns L H (.int i) (.int i)
 |str (x:Str):Rd K ns L H (.str x) (.str x)
 |tup {a:Addr} {vs:List V} {ds:List D} (e:H a=some (.tup vs)) (r:Rds K ns L H vs ds):Rd K ns L H (.ref a) (.tup ds)
 |kt {a:Addr} {vs:List V} {ds:List D} (e:KT K a vs) (r:Rds K ns L H vs ds):Rd K ns L H (.ref a) (.kt ds)
 |lst {a:Addr} {vs:List V} {ds:List D} (l:L a) (e:H a=some (.lst vs)) (r:Rds K ns L H vs ds):Rd K ns L H (.ref a) (.lst ds)
 |fz {a:Addr} {vs:List V} {ds:List D} (e:FZ K H a vs) (r:Rds K ns L H vs ds):Rd K ns L H (.ref a) (.fz ds)
 |ob {a dx:Addr} {gs:List (Str×V)} {c:Cl} {fs:List (Fl×D)} (l:L a) (e:H a=some (.ins (clA K c.s) dx gs)) (k:CF K ns c) (r:Rfs K ns L H gs fs):Rd K ns L H (.ref a) (.ob c fs)
 |dk {a:Addr} {kvs:List (Key×V)} {ds:List D} (l:L a) (e:H a=some (.dK kvs)) (r:Rds K ns L H (kvs.map (·.2)) ds):Rd K ns L H (.ref a) (.dk (kvs.map (·.1)) ds)
 |dt {a:Addr} {kvs:List (List Key×V)} {ds:List D} (l:L a) (e:H a=some (.dT kvs)) (r:Rds K ns L H (kvs.map (·.2)) ds):Rd K ns L H (.ref a) (.dt (kvs.map (·.1)) ds)
inductive Rds(K:W.Frag)(ns:List Str)(L:Addr→Prop)(H:Hp):List V→List D→Prop
 |nil:Rds K ns L H [] []
 |cons {v:V} {d:D} {vs:List V} {ds:List D} (h:Rd K ns L H v d) (t:Rds K ns L H vs ds):Rds K ns L H (v::vs) (d::ds)
inductive Rfs(K:W.Frag)(ns:List Str)(L:Addr→Prop)(H:Hp):List (Str×V)→List (Fl×D)→Prop
 |nil {gs:List (Str×V)}:Rfs K ns L H gs []
 |cons {gs:List (Str×V)} {f:Fl} {v:V} {d:D} {fs:List (Fl×D)} (e:gs.lookup f.s=some v) (h:Rd K ns L H v d) (t:Rfs K ns L H gs fs):Rfs K ns L H gs ((f,d)::fs)
end
def u4:HO→Bool
 | .lst _=>true
 | .ins _ _ _=>true
 | .dK _=>true
 | .dT _=>true
 |_=>false
def KeepL(L:Addr→Prop)(H H':Hp):Prop:=∀a o,H a=some o→(u4 o=true→L a)→H' a=some o
section
variable{K:W.Frag}{ns:List Str}{L L':Addr→Prop}{H H' H'':Hp}
theorem KeepL.of(h:Same H H'):KeepL L H H':=fun a o e _=>h a o e
theorem KeepL.refl:KeepL L H H:=fun _ _ e _=>e
theorem Rd.mono2(hL:∀a o,H a=some o→L a→L' a)(hk:KeepL L H H'){v:V}{d:D}(h:Rd K ns L H v d):Rd K ns L' H' v d:=Rd.rec (motive_1:=fun v d _=>Rd K ns L' H' v d) (motive_2:=fun vs ds _=>Rds K ns L' H' vs ds) (motive_3:=fun gs fs _=>Rfs K ns L' H' gs fs) .non .bl .int .str (fun e _ ih=> .tup (hk _ _ e fun z=>by cases z) ih) (fun e _ ih=> .kt e ih) (fun l e _ ih=> .lst (hL _ _ e l) (hk _ _ e fun _=>l) ih) (fun e _ ih=> .fz (e.imp (fun z=>z.elim fun o z=>⟨o,hk _ _ z fun z=>by cases z⟩) id) ih) (fun l e k _ ih=> .ob (hL _ _ e l) (hk _ _ e fun _=>l) k ih) (fun l e _ ih=> .dk (hL _ _ e l) (hk _ _ e fun _=>l) ih) (fun l e _ ih=> .dt (hL _ _ e l) (hk _ _ e fun _=>l) ih) .nil (fun _ _ h t=> .cons h t) .nil (fun e _ _ h t=> .cons e h t) h
theorem Rds.mono2(hL:∀a o,H a=some o→L a→L' a)(hk:KeepL L H H'){vs:List V}{ds:List D}(h:Rds K ns L H vs ds):Rds K ns L' H' vs ds:=Rds.rec (motive_1:=fun v d _=>Rd K ns L' H' v d) (motive_2:=fun vs ds _=>Rds K ns L' H' vs ds) (motive_3:=fun gs fs _=>Rfs K ns L' H' gs fs) .non .bl .int .str (fun e _ ih=> .tup (hk _ _ e fun z=>by cases z) ih) (fun e _ ih=> .kt e ih) (fun l e _ ih=> .lst (hL _ _ e l) (hk _ _ e fun _=>l) ih) (fun e _ ih=> .fz (e.imp (fun z=>z.elim fun o z=>⟨o,hk _ _ z fun z=>by cases z⟩) id) ih) (fun l e k _ ih=> .ob (hL _ _ e l) (hk _ _ e fun _=>l) k ih) (fun l e _ ih=> .dk (hL _ _ e l) (hk _ _ e fun _=>l) ih) (fun l e _ ih=> .dt (hL _ _ e l) (hk _ _ e fun _=>l) ih) .nil (fun _ _ h t=> .cons h t) .nil (fun e _ _ h t=> .cons e h t) h
theorem Rfs.mono2(hL:∀a o,H a=some o→L a→L' a)(hk:KeepL L H H'){gs:List (Str×V)}{fs:List (Fl×D)}(h:Rfs K ns L H gs fs):Rfs K ns L' H' gs fs:=Rfs.rec (motive_1:=fun v d _=>Rd K ns L' H' v d) (motive_2:=fun vs ds _=>Rds K ns L' H' vs ds) (motive_3:=fun gs fs _=>Rfs K ns L' H' gs fs) .non .bl .int .str (fun e _ ih=> .tup (hk _ _ e fun z=>by cases z) ih) (fun e _ ih=> .kt e ih) (fun l e _ ih=> .lst (hL _ _ e l) (hk _ _ e fun _=>l) ih) (fun e _ ih=> .fz (e.imp (fun z=>z.elim fun o z=>⟨o,hk _ _ z fun z=>by cases z⟩) id) ih) (fun l e k _ ih=> .ob (hL _ _ e l) (hk _ _ e fun _=>l) k ih) (fun l e _ ih=> .dk (hL _ _ e l) (hk _ _ e fun _=>l) ih) (fun l e _ ih=> .dt (hL _ _ e l) (hk _ _ e fun _=>l) ih) .nil (fun _ _ h t=> .cons h t) .nil (fun e _ _ h t=> .cons e h t) h
theorem Rd.mono(hL:∀a,L a→L' a)(hk:KeepL L H H'){v:V}{d:D}(h:Rd K ns L H v d):Rd K ns L' H' v d:=h.mono2 (fun a _ _=>hL a) hk
theorem Rds.mono(hL:∀a,L a→L' a)(hk:KeepL L H H'){vs:List V}{ds:List D}(h:Rds K ns L H vs ds):Rds K ns L' H' vs ds:=h.mono2 (fun a _ _=>hL a) hk
theorem Rfs.mono(hL:∀a,L a→L' a)(hk:KeepL L H H'){gs:List (Str×V)}{fs:List (Fl×D)}(h:Rfs K ns L H gs fs):Rfs K ns L' H' gs fs:=h.mono2 (fun a _ _=>hL a) hk
abbrev Nw(L:Addr→Prop)(H:Hp):Addr→Prop:=fun a=>L a∨H a=none
theorem gX{a:Addr}(S:Same H H')(h:H' a=none):H a=none:=by
 cases e:H a with
 |none=>rfl
 |some o=>rw[S _ _ e] at h;cases h
theorem nw2(S:Same H H'){a:Addr}(h:Nw (Nw L H) H' a):Nw L H a:=h.elim id fun q=> .inr (gX S q)
theorem Rd.nw{v:V}{d:D}(h:Rd K ns L H v d):Rd K ns (Nw L H) H v d:=h.mono (fun _=> .inl) .refl
theorem Rd.same{v:V}{d:D}(h:Rd K ns L H v d)(S:Same H H'):Rd K ns L H' v d:=h.mono (fun _ q=>q) (.of S)
theorem Rds.same{v:List V}{d:List D}(h:Rds K ns L H v d)(S:Same H H'):Rds K ns L H' v d:=h.mono (fun _ q=>q) (.of S)
theorem Rds.nilL{ds:List D}(h:Rds K ns L H [] ds):ds=[]:=by cases h;rfl
theorem Rds.consL{v:V}{vs:List V}{ds:List D}(h:Rds K ns L H (v::vs) ds):∃d es,ds=d::es∧Rd K ns L H v d∧Rds K ns L H vs es:=by
 cases h with
 |cons h t=>exact⟨_,_,rfl,h,t⟩
theorem Rds.len{vs:List V}{ds:List D}(h:Rds K ns L H vs ds):vs.length=ds.length:=by
 induction vs generalizing ds with
 |nil=>rw[h.nilL];rfl
 |cons v vs ih=>
  obtain⟨d,es,rfl,a,t⟩:=h.consL
  exact congrArg Nat.succ (ih t)
theorem Rds.get{vs:List V}{ds:List D}{i:Nat}{d:D}(h:Rds K ns L H vs ds)(e:ds[i]? =some d):∃v,vs[i]? =some v∧Rd K ns L H v d:=by
 induction vs generalizing ds i with
 |nil=>rw[h.nilL] at e;cases e
 |cons v vs ih=>
  obtain⟨c,es,rfl,a,t⟩:=h.consL
  cases i with
  |zero=>cases e;exact⟨_,rfl,a⟩
  |succ i=>exact ih t e
theorem Rds.at:∀{vs:List V} {ds:List D} {i:Nat} {v:V},Rds K ns L H vs ds→vs[i]? =some v→∃d,ds[i]? =some d∧Rd K ns L H v d
 |_,_,_,_, .nil,e=>by simp at e
 |_,_,0,_, .cons h _,e=>by cases e;exact⟨_,rfl,h⟩
 |_,_,i+1,_, .cons _ t,e=>t.at (i:=i) e
theorem Rds.append{vs ws:List V}{ds es:List D}(h:Rds K ns L H vs ds)(s:Rds K ns L H ws es):Rds K ns L H (vs++ws) (ds++es):=by
 induction vs generalizing ds with
 |nil=>rw[h.nilL];exact s
 |cons v vs ih=>
  obtain⟨d,es,rfl,a,t⟩:=h.consL
  exact .cons a (ih t)
theorem Rds.drop{vs:List V}{ds:List D}(n:Nat)(h:Rds K ns L H vs ds):Rds K ns L H (vs.drop n) (ds.drop n):=by
 induction vs generalizing ds n with
 |nil=>rw[h.nilL,List.drop_nil,List.drop_nil];exact .nil
 |cons v vs ih=>
  obtain⟨d,es,rfl,a,t⟩:=h.consL
  cases n with
  |zero=>exact h
  |succ n=>exact ih n t
theorem Rds.take{vs:List V}{ds:List D}(n:Nat)(h:Rds K ns L H vs ds):Rds K ns L H (vs.take n) (ds.take n):=by
 induction vs generalizing ds n with
 |nil=>rw[h.nilL,List.take_nil,List.take_nil];exact .nil
 |cons v vs ih=>
  obtain⟨d,es,rfl,a,t⟩:=h.consL
  cases n with
  |zero=>exact .nil
  |succ n=>exact .cons a (ih n t)
theorem Rds.reverse:∀{vs:List V} {ds:List D},Rds K ns L H vs ds→Rds K ns L H vs.reverse ds.reverse
 |_,_, .nil=> .nil
 |_,_, .cons h t=>by rw[List.reverse_cons,List.reverse_cons];exact t.reverse.append (.cons h .nil)
theorem Rds.set{v:V}{d:D}(h:Rd K ns L H v d):∀{vs:List V} {ds:List D} (i:Nat),Rds K ns L H vs ds→Rds K ns L H (vs.set i v) (ds.set i d)
 |_,_,_, .nil=> .nil
 |_,_,0, .cons _ t=> .cons h t
 |_,_,i+1, .cons q t=> .cons q (t.set h i)
theorem bZ{p:Addr}(h:H p=none)(o:HO):Same H (upd H p o):=fun b u q=>by rw[bO (bL q h)];exact q
theorem iJ{α β:Type}:∀{xs:List α} {ys:List β},xs.length=ys.length→xs.isEmpty=ys.isEmpty
 |[],[],_=>rfl
 |_::_,_::_,_=>rfl
 |[],_::_,h=>by cases h
 |_::_,[],h=>by cases h
def RdO(K:W.Frag)(ns:List Str)(L:Addr→Prop)(H:Hp):HO→D→Prop
 | .lst vs, .lst ds=>Rds K ns L H vs ds
 | .dK kvs, .dk ks ds=>kvs.map (·.1)=ks∧Rds K ns L H (kvs.map (·.2)) ds
 | .dT kvs, .dt ks ds=>kvs.map (·.1)=ks∧Rds K ns L H (kvs.map (·.2)) ds
 |_,_=>False
theorem RdO.case{o:HO}{d:D}(h:RdO K ns L H o d):(∃vs ds,o= .lst vs∧d= .lst ds∧Rds K ns L H vs ds)∨(∃kvs ds,o= .dK kvs∧d= .dk (kvs.map (·.1)) ds∧Rds K ns L H (kvs.map (·.2)) ds)∨∃kvs ds,o= .dT kvs∧d= .dt (kvs.map (·.1)) ds∧Rds K ns L H (kvs.map (·.2)) ds:=by
 cases o with
 |lst vs=>cases d<;>first|exact h.elim|exact .inl ⟨_,_,rfl,rfl,h⟩
 |dK kvs=>cases d<;>first|exact h.elim|exact .inr (.inl ⟨_,_,rfl,by rw[h.1],h.2⟩)
 |dT kvs=>cases d<;>first|exact h.elim|exact .inr (.inr ⟨_,_,rfl,by rw[h.1],h.2⟩)
 |_=>exact h.elim
theorem RdO.rd{o:HO}{d:D}{a:Addr}(h:RdO K ns L H o d)(l:L a)(e:H a=some o):Rd K ns L H (.ref a) d:=by
 rcases h.case with⟨vs,ds,rfl,rfl,r⟩|⟨kvs,ds,rfl,rfl,r⟩|⟨kvs,ds,rfl,rfl,r⟩
 · exact .lst l e r
 · exact .dk l e r
 · exact .dt l e r
theorem RdO.map{L':Addr→Prop}{H':Hp}{o:HO}{d:D}(h:RdO K ns L H o d)(f:∀{vs:List V} {ds:List D},Rds K ns L H vs ds→Rds K ns L' H' vs ds):RdO K ns L' H' o d:=by
 rcases h.case with⟨vs,ds,rfl,rfl,r⟩|⟨kvs,ds,rfl,rfl,r⟩|⟨kvs,ds,rfl,rfl,r⟩
 · exact f r
 · exact⟨rfl,f r⟩
 · exact⟨rfl,f r⟩
theorem RdO.mono(hL:∀a,L a→L' a)(hk:KeepL L H H'){o:HO}{d:D}(h:RdO K ns L H o d):RdO K ns L' H' o d:=h.map fun r=>r.mono hL hk
theorem RdO.mono2(hL:∀a o,H a=some o→L a→L' a)(hk:KeepL L H H'){o:HO}{d:D}(h:RdO K ns L H o d):RdO K ns L' H' o d:=h.map fun r=>r.mono2 hL hk
theorem RdO.same{o:HO}{d:D}(h:RdO K ns L H o d)(S:Same H H'):RdO K ns L H' o d:=h.map fun r=>r.same S
theorem RdO.mut{o:HO}{d:D}(h:RdO K ns L H o d):u4 o=true:=by
 rcases h.case with⟨vs,ds,rfl,rfl,r⟩|⟨kvs,ds,rfl,rfl,r⟩|⟨kvs,ds,rfl,rfl,r⟩<;>rfl
theorem RdO.lst{o:HO}{ds:List D}(h:RdO K ns L H o (.lst ds)):∃vs,o= .lst vs∧Rds K ns L H vs ds:=by
 rcases h.case with⟨vs,ds,rfl,e,r⟩|⟨kvs,ds,rfl,e,r⟩|⟨kvs,ds,rfl,e,r⟩
 · cases e;exact⟨vs,rfl,r⟩
 · cases e
 · cases e
theorem SqT.kt{a:Addr}{xs:List V}(h:KT K a xs):SqT K H a xs:= .inr h
theorem SqL.fz{a:Addr}{xs:List V}(h:FZ K H a xs):SqL K H a xs:=h.elim (fun z=> .inl (.inr z)) .inr
theorem FZ.mono{a:Addr}{xs:List V}(h:FZ K H a xs)(hk:KeepL L H H'):FZ K H' a xs:=h.imp (fun⟨o,z⟩=>⟨o,hk _ _ z fun z=>by cases z⟩) id
end
mutual
def D.flat:D→Bool
 | .lst _=>false
 | .tup xs=>flats xs
 | .kt xs=>flats xs
 | .fz xs=>flats xs
 | .ob _ _=>false
 | .dk _ _=>false
 | .dt _ _=>false
 |_=>true
def flats:List D→Bool
 |[]=>true
 |d::r=>d.flat&&flats r
end
section
variable{K:W.Frag}{ns:List Str}{L L':Addr→Prop}{H H' H'':Hp}
theorem Rd.flat{v:V}{d:D}(r:Rd K ns L H v d):d.flat=true→Rd K ns L' H v d:=Rd.rec (motive_1:=fun v d _=>d.flat=true→Rd K ns L' H v d) (motive_2:=fun vs ds _=>flats ds=true→Rds K ns L' H vs ds) (motive_3:=fun _ _ _=>True) (fun _=> .non) (fun b _=> .bl b) (fun i _=> .int i) (fun x _=> .str x) (fun e _ ih h=> .tup e (ih (by simpa [D.flat] using h))) (fun e _ ih h=> .kt e (ih (by simpa [D.flat] using h))) (fun _ _ _ _ h=>by simp[D.flat] at h) (fun e _ ih h=> .fz e (ih (by simpa [D.flat] using h))) (fun _ _ _ _ _ h=>by simp[D.flat] at h) (fun _ _ _ _ h=>by simp[D.flat] at h) (fun _ _ _ _ h=>by simp[D.flat] at h) (fun _=> .nil) (fun _ _ h t q=>by rw[flats,Bool.and_eq_true] at q;exact .cons (h q.1) (t q.2)) trivial (fun _ _ _ _ _=>trivial) r
theorem Rds.flat{vs:List V}{ds:List D}(r:Rds K ns L H vs ds):flats ds=true→Rds K ns L' H vs ds:=Rds.rec (motive_1:=fun v d _=>d.flat=true→Rd K ns L' H v d) (motive_2:=fun vs ds _=>flats ds=true→Rds K ns L' H vs ds) (motive_3:=fun _ _ _=>True) (fun _=> .non) (fun b _=> .bl b) (fun i _=> .int i) (fun x _=> .str x) (fun e _ ih h=> .tup e (ih (by simpa [D.flat] using h))) (fun e _ ih h=> .kt e (ih (by simpa [D.flat] using h))) (fun _ _ _ _ h=>by simp[D.flat] at h) (fun e _ ih h=> .fz e (ih (by simpa [D.flat] using h))) (fun _ _ _ _ _ h=>by simp[D.flat] at h) (fun _ _ _ _ h=>by simp[D.flat] at h) (fun _ _ _ _ h=>by simp[D.flat] at h) (fun _=> .nil) (fun _ _ h t q=>by rw[flats,Bool.and_eq_true] at q;exact .cons (h q.1) (t q.2)) trivial (fun _ _ _ _ _=>trivial) r
end
end PD
namespace PD
open PySem L2
abbrev Env:=List (Option D)
abbrev VF:=Env→Option D
abbrev AF:=Env→Option (List D)
abbrev BF:=Env→Option Bool
def vD(i:Nat):VF:=fun env=>(env[i]?).join
def cD(d:D):VF:=fun _=>some d
def oD(g:D→D→Option D)(fa fb:VF):VF:=fun env=>(fa env).bind fun a=>(fb env).bind fun b=>g a b
def uD(g:D→Option D)(fa:VF):VF:=fun env=>(fa env).bind g
def ak:AF:=fun _=>some []
def ae(fa:VF)(fr:AF):AF:=fun env=>(fa env).bind fun a=>(fr env).bind fun r=>some (a::r)
def bj(fa:AF):VF:=fun env=>(fa env).bind fun ds=>some (.tup ds)
def bi(fa:AF):VF:=fun env=>(fa env).bind fun ds=>some (.lst ds)
def ah(g:List D→Option D)(fa:AF):VF:=fun env=>(fa env).bind g
def bD(f:VF):BF:=fun env=>(f env).bind fun| .bl b=>some b|_=>none
def y9:D→Option Bool
 | .non=>some false
 | .bl b=>some b
 | .int i=>some (i != 0)
 | .lst xs=>some (!xs.isEmpty)
 | .fz xs=>some (!xs.isEmpty)
 | .tup xs=>some (!xs.isEmpty)
 | .kt xs=>some (!xs.isEmpty)
 |_=>none
def trD(f:VF):BF:=fun env=>(f env).bind y9
def bx(a b:BF):BF:=fun env=>(a env).bind fun x=>if x=true then b env else some false
def orB(a b:BF):BF:=fun env=>(a env).bind fun x=>if x=true then some true else b env
def bo(a:BF):BF:=fun env=>(a env).bind fun x=>some (!x)
def bz(a b:VF):VF:=fun env=>(a env).bind fun| .bl x=>if x=true then b env else some (.bl false)|_=>none
def orD(a b:VF):VF:=fun env=>(a env).bind fun| .bl x=>if x=true then some (.bl true) else b env|_=>none
def bC(a:VF):VF:=fun env=>(a env).bind fun| .bl x=>some (.bl (!x))|_=>none
def ifD(c:BF)(a b:VF):VF:=fun env=>(c env).bind fun x=>if x=true then a env else b env
def dR:BF:=fun _=>some true
section
variable(K:W.Frag)(ns:List Str)
def EnvR(L:Addr→Prop)(env:Env)(σ:St)(H:Hp):Prop:=∀(i:Nat) (d:D),env[i]? =some (some d)→∃v,σ[i]? =some (some v)∧Rd K ns L H v d
def PuE(t:TE)(f:VF):Prop:=∀(L:Addr→Prop) (env:Env) (σ:St) (H:Hp) (Q:VK) (d:D),EnvR K ns L env σ H→f env=some d→(∀v H',Same H H'→Rd K ns (Nw L H) H' v d→Q v H')→t σ H Q
def PuF(t:TE)(f:VF):Prop:=∀(L:Addr→Prop) (env:Env) (σ:St) (H:Hp) (Q:VK) (d:D),EnvR K ns L env σ H→f env=some d→
 (∀p vs ds H',d= .lst ds→Same H H'→H p=none→H' p=some (.lst vs)→Rds K ns (fun a=>Nw L H a∧a≠p) H' vs ds→Q (.ref p) H')→t σ H Q
def PuA(n:Nat)(t:TA)(f:AF):Prop:=∀(L:Addr→Prop) (env:Env) (σ:St) (H:Hp) (Q:List V→Hp→Prop) (ds:List D),EnvR K ns L env σ H→f env=some ds→(∀vs H',ds.length=n→Same H H'→Rds K ns (Nw L H) H' vs ds→Q vs H')→t σ H Q
def PuT(t:TT)(f:BF):Prop:=∀(L:Addr→Prop) (env:Env) (σ:St) (H:Hp) (Q:Bool→Hp→Prop) (b:Bool),EnvR K ns L env σ H→f env=some b→(∀H',Same H H'→Q b H')→t σ H Q
def R2P(r:R2)(g:D→D→Option D):Prop:=∀(L:Addr→Prop) (H:Hp) (x y:V) (a b d:D) (Q:VK),Rd K ns L H x a→Rd K ns L H y b→g a b=some d→(∀v H',Same H H'→Rd K ns (Nw L H) H' v d→Q v H')→r x y H Q
def UnP(r:V→Hp→VK→Prop)(g:D→Option D):Prop:=∀(L:Addr→Prop) (H:Hp) (x:V) (a d:D) (Q:VK),Rd K ns L H x a→g a=some d→(∀v H',Same H H'→Rd K ns (Nw L H) H' v d→Q v H')→r x H Q
def CaP(r:List V→Hp→VK→Prop)(g:List D→Option D):Prop:=∀(L:Addr→Prop) (H:Hp) (xs:List V) (as:List D) (d:D) (Q:VK),Rds K ns L H xs as→g as=some d→(∀v H',Same H H'→Rd K ns (Nw L H) H' v d→Q v H')→r xs H Q
def CaF(r:List V→Hp→VK→Prop)(g:List D→Option D):Prop:=∀(L:Addr→Prop) (H:Hp) (xs:List V) (as:List D) (d:D) (Q:VK),Rds K ns L H xs as→g as=some d→
 (∀p vs ds H',d= .lst ds→Same H H'→H p=none→H' p=some (.lst vs)→Rds K ns (fun a=>Nw L H a∧a≠p) H' vs ds→Q (.ref p) H')→r xs H Q
end
theorem u5{β:Type}{z:D}{f:Bool→Option β}{y:β}(h:(match z with| .bl x=>f x|_=>none)=some y):∃x,z= .bl x∧f x=some y:=by
 cases z with
 |bl x=>exact⟨x,rfl,h⟩
 |_=>cases h
section
variable{K:W.Frag}{ns:List Str}
theorem Rd.blI{L:Addr→Prop}{H:Hp}{x:V}{b:Bool}(r:Rd K ns L H x (.bl b)):x= .bl b:=by cases r;rfl
theorem Rd.strI{L:Addr→Prop}{H:Hp}{x:V}{b:Str}(r:Rd K ns L H x (.str b)):x= .str b:=by cases r;rfl
theorem Rd.intI{L:Addr→Prop}{H:Hp}{x:V}{b:Int}(r:Rd K ns L H x (.int b)):x= .int b:=by cases r;rfl
theorem Rd.tupI{L:Addr→Prop}{H:Hp}{x:V}{ds:List D}(r:Rd K ns L H x (.tup ds)):∃a vs,x= .ref a∧H a=some (.tup vs)∧Rds K ns L H vs ds:=by
 cases r with
 |tup e r=>exact⟨_,_,rfl,e,r⟩
theorem Rd.lstI{L:Addr→Prop}{H:Hp}{x:V}{ds:List D}(r:Rd K ns L H x (.lst ds)):∃a vs,x= .ref a∧L a∧H a=some (.lst vs)∧Rds K ns L H vs ds:=by
 cases r with
 |lst l e r=>exact⟨_,_,rfl,l,e,r⟩
theorem EnvR.same{L:Addr→Prop}{env:Env}{σ:St}{H H':Hp}(h:EnvR K ns L env σ H)(S:Same H H'):EnvR K ns L env σ H':=fun i d e=>by
 obtain⟨v,q,r⟩:=h i d e
 exact⟨v,q,r.same S⟩
theorem EnvR.nw{L:Addr→Prop}{env:Env}{σ:St}{H H':Hp}(h:EnvR K ns L env σ H)(S:Same H H'):EnvR K ns (Nw L H) env σ H':=fun i d e=>by
 obtain⟨v,q,r⟩:=h i d e
 exact⟨v,q,r.nw.same S⟩
theorem bnd{α β:Type}{o:Option α}{g:α→Option β}{y:β}(h:o.bind g=some y):∃x,o=some x∧g x=some y:=by
 cases o with
 |none=>cases h
 |some x=>exact⟨x,rfl,h⟩
theorem PuF.pe{t:TE}{f:VF}(h:PuF K ns t f):PuE K ns t f:=fun L env σ H Q d he hf k=>
 h L env σ H Q d he hf fun p vs ds H' e S hn hp r=>by
   subst e
   exact k _ _ S (.lst (.inr hn) hp (r.mono (fun _ q=>q.1) .refl))
theorem ag(i:Nat):PuE K ns (hV i) (vD i):=by
 intro L env σ H Q d he hf k
 have e:env[i]? =some (some d):=by
  unfold vD at hf
  cases q:env[i]? with
  |none=>rw[q] at hf;cases hf
  |some o=>rw[q] at hf;exact congrArg some hf
 obtain⟨v,q,r⟩:=he i d e
 exact⟨v,q,k v H (Same.refl _) r.nw⟩
theorem aS(i:Int):PuE K ns (tC (.int i)) (cD (.int i)):=fun L env σ H Q d he hf k=>by cases hf;exact k _ _ (Same.refl _) (.int i)
theorem iw(i:Bool):PuE K ns (tC (.bl i)) (cD (.bl i)):=fun L env σ H Q d he hf k=>by cases hf;exact k _ _ (Same.refl _) (.bl i)
theorem pz:PuE K ns (tC .non) (cD .non):=fun L env σ H Q d he hf k=>by cases hf;exact k _ _ (Same.refl _) .non
theorem jh(i:Str):PuE K ns (tC (.str i)) (cD (.str i)):=fun L env σ H Q d he hf k=>by cases hf;exact k _ _ (Same.refl _) (.str i)
theorem aU{r:R2}{g:D→D→Option D}{ta tb:TE}{fa fb:VF}(hr:R2P K ns r g)(ha:PuE K ns ta fa)(hb:PuE K ns tb fb):PuE K ns (tOp r ta tb) (oD g fa fb):=by
 intro L env σ H Q d he hf k
 obtain⟨a,ea,hf⟩:=bnd hf
 obtain⟨b,eb,hf⟩:=bnd hf
 refine ha L env σ H _ a he ea fun x H1 S1 rx=>hb (Nw L H) env σ H1 _ b (he.nw S1) eb fun y H2 S2 ry=> ?_
 refine hr (Nw (Nw L H) H1) H2 x y a b d Q (rx.mono (fun _=> .inl) (.of S2)) ry hf fun v H3 S3 rv=>k v H3 (S1.trans (S2.trans S3)) (rv.mono (fun q hq=> ?_) .refl)
 exact nw2 S1 (nw2 S2 hq)
theorem Aw{r:V→Hp→VK→Prop}{g:D→Option D}{ta:TE}{fa:VF}(hr:UnP K ns r g)(ha:PuE K ns ta fa):PuE K ns (tUn r ta) (uD g fa):=by
 intro L env σ H Q d he hf k
 obtain⟨a,ea,hf⟩:=bnd hf
 exact ha L env σ H _ a he ea fun x H1 S1 rx=>hr (Nw L H) H1 x a d Q rx hf fun v H3 S3 rv=>k v H3 (S1.trans S3) (rv.mono (fun q hq=>nw2 S1 hq) .refl)
theorem ax:PuA K ns 0 kc ak:=fun L env σ H Q ds he hf k=>by cases hf;exact k _ _ rfl (Same.refl _) .nil
theorem af{n:Nat}{ta:TE}{fa:VF}{tr:TA}{fr:AF}(ha:PuE K ns ta fa)(hr:PuA K ns n tr fr):PuA K ns (n+1) (gv ta tr) (ae fa fr):=by
 intro L env σ H Q ds he hf k
 obtain⟨a,ea,hf⟩:=bnd hf
 obtain⟨r,er,hf⟩:=bnd hf
 cases hf
 refine ha L env σ H _ a he ea fun x H1 S1 rx=>hr (Nw L H) env σ H1 _ r (he.nw S1) er fun ys H2 hl S2 ry=> ?_
 exact k _ H2 (congrArg Nat.succ hl) (S1.trans S2) (.cons (rx.mono (fun _ q=>q) (.of S2)) (ry.mono (fun q hq=>nw2 S1 hq) .refl))
theorem fY{n:Nat}{t:TA}{f:AF}(h:PuA K ns n t f)(hn:n≤sizeLine:=by decide):PuE K ns (yF t) (bj f):=by
 intro L env σ H Q d he hf k
 obtain⟨a,ea,hf⟩:=bnd hf
 cases hf
 refine h L env σ H _ a he ea fun vs H1 hl S1 rx=>⟨by rw[rx.len,hl];exact hn,fun p hp=> ?_⟩
 have N:=bZ hp (.tup vs)
 exact k _ _ (S1.trans N) (.tup bV (rx.same N))
theorem dD{n:Nat}{t:TA}{f:AF}(h:PuA K ns n t f)(hn:n≤sizeLine:=by decide):PuF K ns (zX t) (bi f):=by
 intro L env σ H Q d he hf k
 obtain⟨a,ea,hf⟩:=bnd hf
 cases hf
 refine h L env σ H _ a he ea fun vs H1 hl S1 rx=>⟨by rw[rx.len,hl];exact hn,fun p hp=> ?_⟩
 have N:=bZ hp (.lst vs)
 refine k p vs a _ rfl (S1.trans N) (gX S1 hp) bV (rx.mono2 (fun a xs e q=>⟨q,fun z=> ?_⟩) (.of N))
 subst z
 rw[hp] at e
 cases e
theorem cp{n:Nat}{r:List V→Hp→VK→Prop}{g:List D→Option D}{t:TA}{f:AF}(hr:CaP K ns r g)(h:PuA K ns n t f):PuE K ns (tCB r t) (ah g f):=by
 intro L env σ H Q d he hf k
 obtain⟨a,ea,hf⟩:=bnd hf
 exact h L env σ H _ a he ea fun xs H1 _ S1 rx=>hr (Nw L H) H1 xs a d Q rx hf fun v H3 S3 rv=>k v H3 (S1.trans S3) (rv.mono (fun q hq=>nw2 S1 hq) .refl)
theorem kj{n:Nat}{r:List V→Hp→VK→Prop}{g:List D→Option D}{t:TA}{f:AF}(hr:CaF K ns r g)(h:PuA K ns n t f):PuF K ns (tCB r t) (ah g f):=by
 intro L env σ H Q d he hf k
 obtain⟨a,ea,hf⟩:=bnd hf
 exact h L env σ H _ a he ea fun xs H1 _ S1 rx=>hr (Nw L H) H1 xs a d Q rx hf fun p vs ds H3 e S3 hp h3 rv=>k p vs ds H3 e (S1.trans S3) (gX S1 hp) h3 (rv.mono (fun q hq=>⟨nw2 S1 hq.1,hq.2⟩) .refl)
theorem eD{t:TE}{f:VF}(h:PuE K ns t f):PuT K ns (tB t) (bD f):=by
 intro L env σ H Q b he hf k
 obtain⟨d,ed,hf⟩:=bnd hf
 refine h L env σ H _ d he ed fun v H1 S1 r=> ?_
 obtain⟨c,rfl,hf⟩:=u5 hf
 cases hf
 exact⟨_,r.blI,k _ S1⟩
theorem iK{t:TE}{f:VF}(h:PuE K ns t f):PuT K ns (xQ t) (bD f):=eD h
theorem zb{t:TE}{f:VF}(h:PuE K ns t f):PuT K ns (fun σ H Q=>t σ H fun x H'=>∃k,yD K x H' k∧Q k H') (trD f):=by
 intro L env σ H Q b he hf k
 obtain⟨d,ed,hf⟩:=bnd hf
 refine h L env σ H _ d he ed fun v H1 S1 r=> ?_
 cases r with
 |non=>cases hf;exact⟨_,rfl,k _ S1⟩
 |bl b=>cases hf;exact⟨_,rfl,k _ S1⟩
 |int i=>cases hf;exact⟨_,rfl,k _ S1⟩
 |str x=>cases hf
 |tup e r=>cases hf;exact⟨_, .inr (.inl ⟨_,SqT.of e,by rw[iJ r.len]⟩),k _ S1⟩
 |kt e r=>cases hf;exact⟨_, .inr (.inl ⟨_,SqT.kt e,by rw[iJ r.len]⟩),k _ S1⟩
 |lst l e r=>cases hf;exact⟨_, .inl ⟨_,SqL.of e,by rw[iJ r.len]⟩,k _ S1⟩
 |fz e r=>cases hf;exact⟨_, .inl ⟨_,SqL.fz e,by rw[iJ r.len]⟩,k _ S1⟩
 |ob l e _ r=>cases hf
 |dk l e r=>cases hf
 |dt l e r=>cases hf
theorem fF:PuT K ns Al dR:=fun L env σ H Q b he hf k=>by cases hf;exact k _ (Same.refl _)
theorem km{t u:TT}{f g:BF}(h:PuT K ns t f)(h2:PuT K ns u g):PuT K ns (zO t u) (bx f g):=by
 intro L env σ H Q b he hf k
 obtain⟨x,ex,hf⟩:=bnd hf
 refine h L env σ H _ x he ex fun H1 S1=> ?_
 cases x with
 |false=>
  rw[if_neg Bool.false_ne_true] at hf ⊢
  cases hf
  exact k _ S1
 |true=>
  rw[if_pos rfl] at hf ⊢
  exact h2 _ env σ H1 _ b (he.nw S1) hf fun H2 S2=>k _ (S1.trans S2)
theorem u6{t u:TT}{f g:BF}(h:PuT K ns t f)(h2:PuT K ns u g):PuT K ns (tOr t u) (orB f g):=by
 intro L env σ H Q b he hf k
 obtain⟨x,ex,hf⟩:=bnd hf
 refine h L env σ H _ x he ex fun H1 S1=> ?_
 cases x with
 |true=>
  rw[if_pos rfl] at hf ⊢
  cases hf
  exact k _ S1
 |false=>
  rw[if_neg Bool.false_ne_true] at hf ⊢
  exact h2 _ env σ H1 _ b (he.nw S1) hf fun H2 S2=>k _ (S1.trans S2)
theorem fZ{t:TT}{f:BF}(h:PuT K ns t f):PuT K ns (zP t) (bo f):=by
 intro L env σ H Q b he hf k
 obtain⟨x,ex,hf⟩:=bnd hf
 cases hf
 exact h L env σ H _ x he ex fun H1 S1=>k _ S1
theorem kY{t u:TE}{f g:VF}(h:PuE K ns t f)(h2:PuE K ns u g):PuE K ns (xL t u) (bz f g):=by
 intro L env σ H Q b he hf k
 obtain⟨x,ex,hf⟩:=bnd hf
 refine h L env σ H _ x he ex fun v H1 S1 r=> ?_
 obtain⟨c,rfl,hf⟩:=u5 hf
 refine⟨c,r.blI, ?_⟩
 cases c with
 |false=>
  rw[if_neg Bool.false_ne_true]
  cases hf
  exact k _ _ S1 (.bl _)
 |true=>
  rw[if_pos rfl]
  exact h2 _ env σ H1 _ b (he.nw S1) hf fun v H2 S2 r=>k _ _ (S1.trans S2) (r.mono (fun q hq=>nw2 S1 hq) .refl)
theorem Ax{t:TT}{ta tb:TE}{c:BF}{f g:VF}(h:PuT K ns t c)(h1:PuE K ns ta f)(h2:PuE K ns tb g):PuE K ns (tIf t ta tb) (ifD c f g):=by
 intro L env σ H Q b he hf k
 obtain⟨x,ex,hf⟩:=bnd hf
 refine h L env σ H _ x he ex fun H1 S1=> ?_
 cases x with
 |true=>
  rw[if_pos rfl] at hf ⊢
  exact h1 _ env σ H1 _ b (he.nw S1) hf fun v H2 S2 r=>k _ _ (S1.trans S2) (r.mono (fun q hq=>nw2 S1 hq) .refl)
 |false=>
  rw[if_neg Bool.false_ne_true] at hf ⊢
  exact h2 _ env σ H1 _ b (he.nw S1) hf fun v H2 S2 r=>k _ _ (S1.trans S2) (r.mono (fun q hq=>nw2 S1 hq) .refl)
end
end PD
namespace PD
open PySem L2
abbrev big:Int:=18446744073709551616
def ii(g:Int→Int→Option D):D→D→Option D
 | .int i, .int j=>g i j
 |_,_=>none
def cF:D→D→Option D
 | .int i, .int j=>some (.int (i+j))
 | .str a, .str b=>if a.length+b.length≤1000000 then some (.str (a++b)) else none
 | .lst a, .lst b=>if a.length+b.length≤1000000 then some (.lst (a++b)) else none
 | .tup a, .tup b=>if a.length+b.length≤1000000 then some (.tup (a++b)) else none
 |_,_=>none
def nJ:D→D→Option D:=ii fun i j=>some (.int (i-j))
def pA:D→D→Option D
 | .int i, .int j=>if(-big<i∧i<big)∨(-big<j∧j<big) then some (.int (i*j)) else none
 | .str a, .int n=>if a.length≤16∧0≤n∧n≤1000000 then some (.str (Txt.mul a n)) else none
 |_,_=>none
def eE:D→D→Option D:=ii fun i j=>if 0<j∧j<1073741824 then some (.int (i/j)) else none
def Ay:D→D→Option D:=ii fun i j=>if 0<j∧j<big then some (.int (i/j)) else none
def fg:D→D→Option D:=ii fun i j=>if 0<j then some (.int (i%j)) else none
def ltD:D→D→Option D:=ii fun i j=>some (.bl (decide (i<j)))
def leD:D→D→Option D:=ii fun i j=>some (.bl (decide (i≤j)))
def gtD:D→D→Option D:=ii fun i j=>some (.bl (decide (j<i)))
def geD:D→D→Option D:=ii fun i j=>some (.bl (decide (j≤i)))
mutual
def lU:D→Option PyData
 | .non=>some .none
 | .bl b=>some (.bool b)
 | .int i=>some (.int i)
 | .str x=>some (.str x)
 | .lst xs=>(toPys xs).map .list
 | .fz xs=>(toPys xs).map .list
 | .tup xs=>(toPys xs).map .tuple
 | .kt xs=>(toPys xs).map .tuple
 | .ob _ _=>none
 | .dk _ _=>none
 | .dt _ _=>none
def toPys:List D→Option (List PyData)
 |[]=>some []
 |d::r=>(lU d).bind fun x=>(toPys r).map (x:: ·)
end
def eqX(d e:D):Option Bool:=(lU d).bind fun x=>(lU e).bind fun y=>if SeqAt.shaped x=true∧SeqAt.shaped y=true then some (PyData.eqv x y) else none
def eqB:D→D→Option Bool
 | .int i, .int j=>some (decide (i=j))
 | .str i, .str j=>some (decide (i=j))
 | .bl i, .bl j=>some (decide (i=j))
 |d,e=>eqX d e
def eqD(d e:D):Option D:=(eqB d e).map .bl
def neD(d e:D):Option D:=(eqB d e).map fun b=> .bl (!b)
def D.isN:D→Bool
 | .non=>true
 |_=>false
def D.isB(b:Bool):D→Bool
 | .bl c=>decide (c=b)
 |_=>false
def isD:D→D→Option D
 |a, .non=>some (.bl a.isN)
 |a, .bl b=>some (.bl (a.isB b))
 |_,_=>none
def oq:D→Option (List D)
 | .lst xs=>some xs
 | .fz xs=>some xs
 | .tup xs=>some xs
 | .kt xs=>some xs
 |_=>none
def ixD:D→D→Option D
 | .str z, .int i=>if z.length≤1000000 then(atI z.cps.toList i).map fun c=> .str ⟨#[c]⟩ else none
 |d, .int i=>(oq d).bind fun xs=>atI xs i
 |_,_=>none
def kZ(xs:List D)(lo hi:Option Int):List D:=(xs.drop (HT.sIx xs.length 0 lo)).take (HT.sIx xs.length xs.length hi-HT.sIx xs.length 0 lo)
def ji:D→Option Int→Option Int→Option D
 | .lst xs,lo,hi=>some (.lst (kZ xs lo hi))
 | .fz xs,lo,hi=>some (.lst (kZ xs lo hi))
 | .tup xs,lo,hi=>if HT.sIx xs.length 0 lo=0∧HT.sIx xs.length xs.length hi=xs.length then none else some (.tup (kZ xs lo hi))
 | .str z,lo,hi=>if z.length≤1000000 then some (.str (Txt.slice z lo hi)) else none
 |_,_,_=>none
abbrev OF:=Env→Option (Option Int)
def noO:OF:=fun _=>some none
def atO(f:VF):OF:=fun env=>(f env).bind fun| .int i=>some (some i)|_=>none
def slD(g:D→Option Int→Option Int→Option D)(f:VF)(lo hi:OF):VF:=fun env=>(f env).bind fun d=>(lo env).bind fun l=>(hi env).bind fun h=>g d l h
def wQ:D→Option D
 | .int i=>some (.int (-i))
 |_=>none
def fW:List D→Option D
 |[.str z]=>if z.length≤1000000 then some (.int z.length) else none
 |[d]=>(oq d).map fun xs=> .int xs.length
 |_=>none
def lO:List D→Option D
 |[.int i, .int j]=>some (.int (if j>i then j else i))
 |_=>none
def mS:List D→Option D
 |[.int i, .int j]=>some (.int (if j<i then j else i))
 |_=>none
def blS:List D→Option (List Bool)
 |[]=>some []
 | .bl b::r=>(blS r).map (b:: ·)
 |_=>none
def inS:List D→Option (List Int)
 |[]=>some []
 | .int b::r=>(inS r).map (b:: ·)
 |_=>none
def nK:List D→Option D
 |[.lst xs]=>(blS xs).map fun bs=> .bl (bs.all id)
 |_=>none
def qD:List D→Option D
 |[.lst xs]=>(inS xs).map fun bs=> .int bs.sum
 |_=>none
def jB:List D→Option D
 |[d]=>(oq d).map .lst
 |_=>none
def D.ty:D→String
 | .non=>"NoneType"| .bl _=>"bool"| .int _=>"int"| .str _=>"str"| .lst _=>"list"| .tup _=>"tuple"| .fz _=>"list"| .kt _=>""| .ob _ _=>"object"| .dk _ _=>"dict"| .dt _ _=>"dict"
def gu(t T:String):Bool:=t==T||(t=="bool"&&T=="int")
def isT(T:String):List D→Option D
 |[.kt _]=>none
 |[.fz _]=>none
 |[.dk _ _]=>none
 |[.dt _ _]=>none
 |[d]=>some (.bl (gu d.ty T))
 |_=>none
def isC(c:Cl):List D→Option D
 |[.ob c' _]=>some (.bl (decide (c'=c)))
 |_=>none
def bU(f:Fl):D→Option D
 | .ob c fs=>if f∈c.fs then fs.lookup f else none
 |_=>none
section
variable{K:W.Frag}{ns:List Str}
theorem la{g:Int→Int→Option D}{L:Addr→Prop}{H:Hp}{x y:V}{a b d:D}(rx:Rd K ns L H x a)(ry:Rd K ns L H y b)(hf:ii g a b=some d):∃i j,x= .int i∧y= .int j∧g i j=some d:=by
 cases rx<;>first|(cases hf;done)|(cases ry<;>first|(cases hf;done)|skip)
 exact⟨_,_,rfl,rfl,hf⟩
theorem cq:R2P K ns (uY K) cF:=by
 intro L H x y a b d Q rx ry hf k
 unfold cF at hf
 split at hf
 · cases hf
   exact .inl (.inl ⟨_,_,rx.intI,ry.intI,k _ _ (Same.refl _) (.int _)⟩)
 · split at hf
   · cases hf
     rename_i h
     exact .inl (.inr (.inl ⟨_,_,rx.strI,ry.strI,Nat.le_trans h (by decide),k _ _ (Same.refl _) (.str _)⟩))
   · cases hf
 · split at hf
   · cases hf
     rename_i h
     obtain⟨p1,v1,rfl,l1,e1,r1⟩:=rx.lstI
     obtain⟨p2,v2,rfl,l2,e2,r2⟩:=ry.lstI
     refine .inl (.inr (.inr ⟨_,_,_,_,rfl,rfl,e1,e2,by rw[r1.len,r2.len];exact Nat.le_trans h (by decide),fun p hp=>k _ _ (bZ hp _) (.lst (.inr hp) bV ?_)⟩))
     exact(r1.append r2).mono (fun _=> .inl) (.of (bZ hp _))
   · cases hf
 · split at hf
   · cases hf
     rename_i h
     obtain⟨p1,v1,rfl,e1,r1⟩:=rx.tupI
     obtain⟨p2,v2,rfl,e2,r2⟩:=ry.tupI
     have hl:∀{n m:Nat},n+m≤1000000→n+m≤sizeLine:=fun q=>Nat.le_trans q (by decide)
     cases r1 with
     |nil=>exact .inr (.inr ⟨_,_,_,rfl,rfl,SqT.of e1,SqT.of e2,k _ _ (Same.refl _) (Rd.tup e2 r2).nw⟩)
     |cons h1 t1=>
      have r1:=Rds.cons h1 t1
      refine .inr (.inl ⟨_,_,_,_,rfl,rfl,SqT.of e1,SqT.of e2,List.cons_ne_nil _ _,by rw[r1.len,r2.len];exact hl h,fun z=> ?_,fun _ p hp=>k _ _ (bZ hp _) (.tup bV ((r1.append r2).mono (fun _=> .inl) (.of (bZ hp _))))⟩)
      subst z
      cases r2
      rw[List.append_nil] at k
      exact k _ _ (Same.refl _) (Rd.tup e1 r1).nw
   · cases hf
 · cases hf
theorem wR{L:Addr→Prop}{H:Hp}{p:Addr}{vs:List V}{ds:List D}{o:HO}(r:Rds K ns L H vs ds)(hp:H p=none):Rds K ns (fun a=>Nw L H a∧a≠p) (upd H p o) vs ds:=
 r.mono2 (fun a xs e q=>⟨.inl q,bL e hp⟩) (.of (bZ hp _))
theorem lb:R2P K ns An nJ:=by
 intro L H x y a b d Q rx ry hf k
 obtain⟨i,j,rfl,rfl,hf⟩:=la rx ry hf
 cases hf
 exact⟨_,_,rfl,rfl,k _ _ (Same.refl _) (.int _)⟩
theorem lc:R2P K ns x5 pA:=by
 intro L H x y a b d Q rx ry hf k
 unfold pA at hf
 split at hf
 · split at hf
   · cases hf
     rename_i h
     refine .inl ⟨_,_,rx.intI,ry.intI, ?_,k _ _ (Same.refl _) (.int _)⟩
     rcases h with h|h
     · exact IntMulOk.of_left (intBits_le_64 h.1 h.2)
     · exact IntMulOk.of_right (intBits_le_64 h.1 h.2)
   · cases hf
 · split at hf
   · cases hf
     rename_i h
     exact .inr (.inr ⟨_,_,rx.strI,ry.intI,h.1,h.2.1,h.2.2,k _ _ (Same.refl _) (.str _)⟩)
   · cases hf
 · cases hf
theorem cG:R2P K ns Ao eE:=by
 intro L H x y a b d Q rx ry hf k
 obtain⟨i,j,rfl,rfl,hf⟩:=la rx ry hf
 split at hf
 · cases hf
   rename_i h
   exact⟨_,_,rfl,rfl,h,k _ _ (Same.refl _) (.int _)⟩
 · cases hf
theorem cL:R2P K ns AX fg:=by
 intro L H x y a b d Q rx ry hf k
 obtain⟨i,j,rfl,rfl,hf⟩:=la rx ry hf
 split at hf
 · cases hf
   rename_i h
   exact⟨_,_,rfl,rfl,h,k _ _ (Same.refl _) (.int _)⟩
 · cases hf
theorem qE:R2P K ns rLt ltD:=by
 intro L H x y a b d Q rx ry hf k
 obtain⟨i,j,rfl,rfl,hf⟩:=la rx ry hf
 cases hf
 exact⟨_,_,rfl,rfl,k _ _ (Same.refl _) (.bl _)⟩
theorem ye:R2P K ns rLe leD:=by
 intro L H x y a b d Q rx ry hf k
 obtain⟨i,j,rfl,rfl,hf⟩:=la rx ry hf
 cases hf
 exact⟨_,_,rfl,rfl,k _ _ (Same.refl _) (.bl _)⟩
theorem yf:R2P K ns rGt gtD:=by
 intro L H x y a b d Q rx ry hf k
 obtain⟨i,j,rfl,rfl,hf⟩:=la rx ry hf
 cases hf
 exact⟨_,_,rfl,rfl,k _ _ (Same.refl _) (.bl _)⟩
theorem Rd.py{L:Addr→Prop}{H:Hp}{v:V}{d:D}{y:PyData}(r:Rd K ns L H v d):lU d=some y→RdD K H v y:=Rd.rec (motive_1:=fun v d _=>∀y,lU d=some y→RdD K H v y) (motive_2:=fun vs ds _=>∀ys,toPys ds=some ys→RdDs K H vs ys) (motive_3:=fun _ _ _=>True) (fun y e=>by cases e;exact .non) (fun b y e=>by cases e;exact .bl b) (fun i y e=>by cases e;exact .int i) (fun x y e=>by cases e;exact .str x) (fun h _ ih y e=>by rw[lU] at e;obtain⟨z,ez,rfl⟩:=Option.map_eq_some_iff.mp e;exact .tup (SqT.of h) (ih z ez)) (fun h _ ih y e=>by rw[lU] at e;obtain⟨z,ez,rfl⟩:=Option.map_eq_some_iff.mp e;exact .tup (SqT.kt h) (ih z ez)) (fun l h _ ih y e=>by rw[lU] at e;obtain⟨z,ez,rfl⟩:=Option.map_eq_some_iff.mp e;exact .lst (SqL.of h) (ih z ez)) (fun h _ ih y e=>by rw[lU] at e;obtain⟨z,ez,rfl⟩:=Option.map_eq_some_iff.mp e;exact .lst (SqL.fz h) (ih z ez)) (fun _ _ _ _ _ y e=>by rw[lU] at e;cases e) (fun _ _ _ _ y e=>by rw[lU] at e;cases e) (fun _ _ _ _ y e=>by rw[lU] at e;cases e) (fun ys e=>by cases e;exact .nil) (fun _ _ ih it ys e=>by rw[toPys] at e;obtain⟨x,ex,e⟩:=bnd e;obtain⟨z,ez,rfl⟩:=Option.map_eq_some_iff.mp e;exact .cons (ih x ex) (it z ez)) trivial (fun _ _ _ _ _=>trivial) r y
theorem zc{L:Addr→Prop}{H:Hp}{x y:V}{d e:D}{b:Bool}(rx:Rd K ns L H x d)(ry:Rd K ns L H y e)(h:eqX d e=some b):∃p q,RdD K H x p∧RdD K H y q∧SeqAt.shaped p=true∧SeqAt.shaped q=true∧PyData.eqv p q=b:=by
 obtain⟨p,ep,h⟩:=bnd h
 obtain⟨q,eq,h⟩:=bnd h
 split at h
 · rename_i hs
   exact⟨p,q,rx.py ep,ry.py eq,hs.1,hs.2,Option.some.inj h⟩
 · cases h
theorem u7{L:Addr→Prop}{H:Hp}{x y:V}{a b:D}{c:Bool}(rx:Rd K ns L H x a)(ry:Rd K ns L H y b)(hc:eqB a b=some c):(∃i j:Int,x= .int i∧y= .int j∧c=decide (i=j))∨(∃i j:Str,x= .str i∧y= .str j∧c=decide (i=j))∨(∃i j:Bool,x= .bl i∧y= .bl j∧c=decide (i=j))∨∃p q,RdD K H x p∧RdD K H y q∧SeqAt.shaped p=true∧SeqAt.shaped q=true∧PyData.eqv p q=c:=by
 unfold eqB at hc
 split at hc
 · cases hc
   exact .inl ⟨_,_,rx.intI,ry.intI,rfl⟩
 · cases hc
   exact .inr (.inl ⟨_,_,rx.strI,ry.strI,rfl⟩)
 · cases hc
   exact .inr (.inr (.inl ⟨_,_,rx.blI,ry.blI,rfl⟩))
 · exact .inr (.inr (.inr (zc rx ry hc)))
theorem sF{i j:Str}:decide (V.str i=V.str j)=decide (i=j):=by simp
theorem rK{i j:Bool}:decide (V.bl i=V.bl j)=decide (i=j):=by simp
theorem ou:R2P K ns (Aj K) eqD:=by
 intro L H x y a b d Q rx ry hf k
 obtain⟨c,hc,rfl⟩:=Option.map_eq_some_iff.mp hf
 rcases u7 rx ry hc with⟨i,j,rfl,rfl,rfl⟩|⟨i,j,rfl,rfl,rfl⟩|⟨i,j,rfl,rfl,rfl⟩|⟨p,q,r1,r2,s1,s2,rfl⟩
 · exact .inl ⟨_,_,rfl,rfl,k _ _ (Same.refl _) (.bl _)⟩
 · exact .inr (.inr (.inl ⟨rfl,by rw[sF];exact k _ _ (Same.refl _) (.bl _)⟩))
 · exact .inr (.inr (.inl ⟨rfl,by rw[rK];exact k _ _ (Same.refl _) (.bl _)⟩))
 · exact .inr (.inr (.inr ⟨p,q,r1,r2,s1,s2,k _ _ (Same.refl _) (.bl _)⟩))
theorem yg:R2P K ns (Ak K) neD:=by
 intro L H x y a b d Q rx ry hf k
 obtain⟨c,hc,rfl⟩:=Option.map_eq_some_iff.mp hf
 rcases u7 rx ry hc with⟨i,j,rfl,rfl,rfl⟩|⟨i,j,rfl,rfl,rfl⟩|⟨i,j,rfl,rfl,rfl⟩|⟨p,q,r1,r2,s1,s2,rfl⟩
 · exact .inl ⟨_,_,rfl,rfl,k _ _ (Same.refl _) (.bl _)⟩
 · exact .inr (.inl ⟨rfl,by rw[sF];exact k _ _ (Same.refl _) (.bl _)⟩)
 · exact .inr (.inl ⟨rfl,by rw[rK];exact k _ _ (Same.refl _) (.bl _)⟩)
 · exact .inr (.inr ⟨p,q,r1,r2,s1,s2,k _ _ (Same.refl _) (.bl _)⟩)
theorem zd{L:Addr→Prop}{H:Hp}{x:V}{a:D}(r:Rd K ns L H x a):decide (x=V.non)=a.isN:=by cases r<;>rfl
theorem ze{L:Addr→Prop}{H:Hp}{x:V}{a:D}{b:Bool}(r:Rd K ns L H x a):decide (x=V.bl b)=a.isB b:=by cases r<;>first|rfl|exact rK
theorem u8:R2P K ns Au isD:=by
 intro L H x y a b d Q rx ry hf k
 unfold isD at hf
 split at hf
 · cases hf
   cases ry
   exact .inl ⟨rfl,by rw[zd rx];exact k _ _ (Same.refl _) (.bl _)⟩
 · cases hf
   exact .inr ⟨_,ry.blI,by rw[ze rx];exact k _ _ (Same.refl _) (.bl _)⟩
 · cases hf
theorem rL{L:Addr→Prop}{H:Hp}{x:V}{d:D}{xs:List D}(r:Rd K ns L H x d)(h:oq d=some xs):∃p vs,x= .ref p∧(SqL K H p vs∨SqT K H p vs)∧Rds K ns L H vs xs:=by
 cases r<;>first|(cases h;done)|skip
 · rename_i e r;cases h;exact⟨_,_,rfl, .inr (SqT.of e),r⟩
 · rename_i e r;cases h;exact⟨_,_,rfl, .inr (SqT.kt e),r⟩
 · rename_i l e r;cases h;exact⟨_,_,rfl, .inl (SqL.of e),r⟩
 · rename_i e r;cases h;exact⟨_,_,rfl, .inl (SqL.fz e),r⟩
theorem zf{α β:Type}{xs:List α}{ys:List β}{i:Int}{y:β}(hl:xs.length=ys.length)(h:atI ys i=some y):∃j:Nat,ys[j]? =some y∧atI xs i=xs[j]? :=by
 unfold atI at h ⊢
 obtain⟨j,ej,e⟩:=bnd h
 rw[hl,ej]
 exact⟨j,e,rfl⟩
theorem cH:R2P K ns (rIx K) ixD:=by
 intro L H x y a b d Q rx ry hf k
 unfold ixD at hf
 split at hf
 · cases rx;cases ry
   split at hf
   · rename_i z i h
     obtain⟨c,hc,rfl⟩:=Option.map_eq_some_iff.mp hf
     exact .inr (.inr ⟨_,_,c,rfl,rfl,Nat.le_trans h (by decide),hc,k _ _ (Same.refl _) (.str _)⟩)
   · cases hf
 · cases ry
   obtain⟨xs,es,hf⟩:=bnd hf
   obtain⟨p,vs,rfl,sq,rs⟩:=rL rx es
   obtain⟨j,ej,e⟩:=zf rs.len hf
   obtain⟨v,ev,rv⟩:=rs.get ej
   rcases sq with sq|sq
   · exact .inl ⟨p,vs,_,v,rfl,rfl,sq,e.trans ev,k _ _ (Same.refl _) rv.nw⟩
   · exact .inr (.inl ⟨p,vs,_,v,rfl,rfl,sq,e.trans ev,k _ _ (Same.refl _) rv.nw⟩)
 · cases hf
theorem wS:UnP K ns AY wQ:=by
 intro L H x a d Q rx hf k
 cases rx<;>first|(cases hf;done)|skip
 cases hf
 exact⟨_,rfl,k _ _ (Same.refl _) (.int _)⟩
theorem jj{L:Addr→Prop}{H:Hp}{xs:List V}{d:D}(r:Rds K ns L H xs [d]):∃x,xs=[x]∧Rd K ns L H x d:=by
 cases r with
 |cons h t=>cases t;exact⟨_,rfl,h⟩
theorem lg{L:Addr→Prop}{H:Hp}{xs:List V}{d e:D}(r:Rds K ns L H xs [d,e]):∃x y,xs=[x,y]∧Rd K ns L H x d∧Rd K ns L H y e:=by
 cases r with
 |cons h t=>obtain⟨y,rfl,q⟩:=jj t;exact⟨_,_,rfl,h,q⟩
theorem gY:CaP K ns (AZ K) fW:=by
 intro L H xs as d Q rx hf k
 unfold fW at hf
 split at hf
 · obtain⟨x,rfl,r⟩:=jj rx
   cases r
   split at hf
   · rename_i h
     cases hf
     exact .inr ⟨_,rfl,Nat.le_trans h (by decide),k _ _ (Same.refl _) (.int _)⟩
   · cases hf
 · obtain⟨x,rfl,r⟩:=jj rx
   obtain⟨ys,ey,rfl⟩:=Option.map_eq_some_iff.mp hf
   obtain⟨p,vs,rfl,sq,rs⟩:=rL r ey
   have:=k (.int vs.length) H (Same.refl _) (by rw[rs.len];exact .int _)
   exact .inl ⟨p,vs,rfl,sq,this⟩
 · cases hf
theorem kn:CaP K ns Ap lO:=by
 intro L H xs as d Q rx hf k
 unfold lO at hf
 split at hf
 · cases hf
   obtain⟨x,y,rfl,r,r'⟩:=lg rx
   cases r;cases r'
   exact⟨_,_,rfl,k _ _ (Same.refl _) (.int _)⟩
 · cases hf
theorem mw:CaP K ns Aq mS:=by
 intro L H xs as d Q rx hf k
 unfold mS at hf
 split at hf
 · cases hf
   obtain⟨x,y,rfl,r,r'⟩:=lg rx
   cases r;cases r'
   exact⟨_,_,rfl,k _ _ (Same.refl _) (.int _)⟩
 · cases hf
theorem zg{L:Addr→Prop}{H:Hp}{vs:List V}{ds:List D}{bs:List Bool}(r:Rds K ns L H vs ds)(e:blS ds=some bs):vs=bs.map V.bl:=by
 induction vs generalizing ds bs with
 |nil=>rw[r.nilL] at e;cases e;rfl
 |cons v vs ih=>
  obtain⟨d,es,rfl,h,t⟩:=r.consL
  cases h<;>first|(cases e;done)|skip
  obtain⟨z,ez,rfl⟩:=Option.map_eq_some_iff.mp e
  rw[ih t ez]
  rfl
theorem u9{L:Addr→Prop}{H:Hp}{vs:List V}{ds:List D}{bs:List Int}(r:Rds K ns L H vs ds)(e:inS ds=some bs):vs=bs.map V.int:=by
 induction vs generalizing ds bs with
 |nil=>rw[r.nilL] at e;cases e;rfl
 |cons v vs ih=>
  obtain⟨d,es,rfl,h,t⟩:=r.consL
  cases h<;>first|(cases e;done)|skip
  obtain⟨z,ez,rfl⟩:=Option.map_eq_some_iff.mp e
  rw[ih t ez]
  rfl
theorem pB:CaP K ns (A3 K) nK:=by
 intro L H xs as d Q rx hf k
 unfold nK at hf
 split at hf
 · obtain⟨x,rfl,r⟩:=jj rx
   obtain⟨bs,eb,rfl⟩:=Option.map_eq_some_iff.mp hf
   cases r with
   |lst l e r=>exact⟨_,bs,rfl,by rw[←zg r eb];exact SqL.of e,k _ _ (Same.refl _) (.bl _)⟩
 · cases hf
theorem rM:CaP K ns (y4 K) qD:=by
 intro L H xs as d Q rx hf k
 unfold qD at hf
 split at hf
 · obtain⟨x,rfl,r⟩:=jj rx
   obtain⟨bs,eb,rfl⟩:=Option.map_eq_some_iff.mp hf
   cases r with
   |lst l e r=>exact⟨_,bs,rfl,by rw[←u9 r eb];exact SqL.of e,k _ _ (Same.refl _) (.int _)⟩
 · cases hf
theorem mx:CaF K ns (wJ K) jB:=by
 intro L H xs as d Q rx hf k
 unfold jB at hf
 split at hf
 · obtain⟨x,rfl,r⟩:=jj rx
   obtain⟨ys,ey,rfl⟩:=Option.map_eq_some_iff.mp hf
   obtain⟨p,vs,rfl,sq,rs⟩:=rL r ey
   exact⟨p,vs,rfl,sq,fun l hl=>k _ _ _ _ rfl (bZ hl _) hl bV (wR rs hl)⟩
 · cases hf
def PuO(K:W.Frag)(ns:List Str)(t:TO)(f:OF):Prop:=∀(L:Addr→Prop) (env:Env) (σ:St) (H:Hp) (Q:Option Int→Hp→Prop) (o:Option Int),EnvR K ns L env σ H→f env=some o→(∀H',Same H H'→Q o H')→t σ H Q
theorem yh:PuO K ns so noO:=fun L env σ H Q o he hf k=>by cases hf;exact k _ (Same.refl _)
theorem lP{t:TE}{f:VF}(h:PuE K ns t f):PuO K ns (xS t) (atO f):=by
 intro L env σ H Q o he hf k
 obtain⟨d,ed,hf⟩:=bnd hf
 refine h L env σ H _ d he ed fun v H1 S1 r=> ?_
 cases r<;>first|(cases hf;done)|skip
 cases hf
 exact⟨_,rfl,k _ S1⟩
theorem pC{L:Addr→Prop}{H:Hp}{vs:List V}{ds:List D}(r:Rds K ns L H vs ds)(lo hi:Option Int):Rds K ns L H (qw vs lo hi) (kZ ds lo hi):=by
 unfold qw kZ
 rw[r.len]
 exact(r.drop _).take _
theorem qF{t:TE}{f:VF}{tl th:TO}{fl fh:OF}(h:PuE K ns t f)(hl:PuO K ns tl fl)(hh:PuO K ns th fh):PuE K ns (tSl (yY K) t tl th) (slD ji f fl fh):=by
 intro L env σ H Q d he hf k
 obtain⟨a,ea,hf⟩:=bnd hf
 obtain⟨lo,el,hf⟩:=bnd hf
 obtain⟨hi,ehi,hf⟩:=bnd hf
 refine h L env σ H _ a he ea fun x H1 S1 rx=>hl (Nw L H) env σ H1 _ lo (he.nw S1) el fun H2 S2=>hh (Nw L H) env σ H2 _ hi (he.nw (S1.trans S2)) ehi fun H3 S3=> ?_
 have S13:=S2.trans S3
 have rx3:=rx.same S13
 have SS:=S1.trans S13
 have fin:∀{p:Addr} {o:HO} {a:Addr},H3 p=none→Nw (Nw L H) H3 a→Nw L H a:=fun {p o a} _ q=>nw2 SS q
 cases rx3 with
 |str z=>
  dsimp only[ji] at hf
  split at hf
  case isTrue hq=>
   cases hf
   exact .inr (.inr ⟨_,rfl,Nat.le_trans hq (by decide),k _ _ SS (.str _)⟩)
  case isFalse=>cases hf
 |tup e r=>
  dsimp only[ji] at hf
  split at hf
  case isTrue=>cases hf
  case isFalse hn=>
   cases hf
   refine .inr (.inl ⟨_,_,rfl,SqT.of e,by rw[r.len];exact hn,fun p hp=>k _ _ (SS.trans (bZ hp _)) (.tup bV ((pC r _ _).mono (fun _ q=>q) (.of (bZ hp _))))⟩)
 |lst l e r=>
  cases hf
  exact .inl ⟨_,_,rfl,SqL.of e,fun p hp=>k _ _ (SS.trans (bZ hp _)) (.lst (.inr (gX SS hp)) bV ((pC r _ _).mono (fun _ q=>q) (.of (bZ hp _))))⟩
 |fz e r=>
  cases hf
  exact .inl ⟨_,_,rfl,SqL.fz e,fun p hp=>k _ _ (SS.trans (bZ hp _)) (.lst (.inr (gX SS hp)) bV ((pC r _ _).mono (fun _ q=>q) (.of (bZ hp _))))⟩
 |_=>cases hf
theorem pD{L:Addr→Prop}{H:Hp}:∀{gs:List (Str×V)} {fs:List (Fl×D)} {f:Fl} {d:D},Rfs K ns L H gs fs→fs.lookup f=some d→∃v,gs.lookup f.s=some v∧Rd K ns L H v d
 |_,_,_,_, .nil,e=>by cases e
 |_,_,f,d, .cons (f:=g) h r t,e=>by
  rw[List.lookup_cons] at e
  by_cases q:f=g
  · subst q
    rw[beq_self_eq_true] at e
    cases e
    exact⟨_,h,r⟩
  · rw[beq_eq_false_iff_ne.mpr q] at e
    exact pD t e
theorem bY{t:TE}{h:VF}(f:Fl)(p:PuE K ns t h):PuE K ns (oZ K t f.s) (uD (bU f) h):=by
 intro L env σ H Q d he hf k
 obtain⟨a,ea,hf⟩:=bnd hf
 refine p L env σ H _ a he ea fun x H1 S1 rx=> ?_
 cases rx<;>first|(cases hf;done)|skip
 rename_i l e c r
 dsimp only[bU] at hf
 split at hf
 · rename_i hm
   obtain⟨v,ev,rv⟩:=pD r hf
   exact⟨_,_,_,_,v,rfl,e,c.cls,c.na _ (List.mem_map_of_mem hm),ev,k _ _ S1 rv⟩
 · cases hf
end
end PD
namespace PD
open PySem L2
section
variable(K:W.Frag)(ns:List Str)
def ItP(J:It)(ds:List D)(L:Addr→Prop)(H1:Hp):Prop:=∀(L2:Addr→Prop) (i:Nat) (H:Hp),(∀a o,H1 a=some o→L a→L2 a)→KeepL L2 H1 H→
 (∀d,ds[i]? =some d→J.go i H∧∀x H',J.yld i H x H'→Same H H'∧Rd K ns (Nw L2 H) H' x d)∧(ds.length=i→J.stop i H)
def PuI(wi:TI)(f:AF):Prop:=∀(L:Addr→Prop) (env:Env) (σ:St) (H:Hp) (R:It→Hp→Prop) (ds:List D),EnvR K ns L env σ H→f env=some ds→(∀J H',Same H H'→ItP K ns J ds (Nw L H) H'→R J H')→wi σ H R
end
def cN:D→Option (List D)
 | .lst xs=>some xs
 | .fz xs=>some xs
 | .tup xs=>some xs
 | .kt xs=>some xs
 | .str z=>some (z.cps.toList.map fun c=> .str ⟨#[c]⟩)
 |_=>none
def itD(f:VF):AF:=fun env=>(f env).bind cN
def iL:List D→Option (List D)
 |[.int j]=>if-1000000<j∧j<1000000 then some ((List.range j.toNat).map fun(i:Nat)=>D.int (0+(i:Int))) else none
 |_=>none
def ko:List D→Option (List D)
 |[.int i, .int j]=>if-1000000<i∧i<1000000∧ -1000000<j∧j<1000000 then some ((List.range (j-i).toNat).map fun(k:Nat)=>D.int (i+(k:Int))) else none
 |_=>none
def iaD(g:List D→Option (List D))(f:AF):AF:=fun env=>(f env).bind g
def hU(xs:List D):List D:=xs.mapIdx fun i d=> .tup [.int i,d]
def mT:List D→Option (List D)
 |[.lst xs]=>some (hU xs)
 |_=>none
def lV(xs ys:List D):List D:=List.zipWith (fun a b=>D.tup [a,b]) xs ys
def va:List D→Option (List D)
 |[.lst xs, .lst ys]=>some (lV xs ys)
 |[.tup xs, .tup ys]=>if xs.length≤ys.length then some (lV xs ys) else none
 |_=>none
def jv(fc:BF)(fe:VF)(caps:Env):List D→Option (List D)
 |[]=>some []
 |x::xs=>(fc (some x::caps)).bind fun b=>if b=true then(fe (some x::caps)).bind fun y=>(jv fc fe caps xs).map (y:: ·) else jv fc fe caps xs
def jC(cap:List Nat)(env:Env):Env:=cap.map fun i=>(env[i]?).join
def bX(fi:AF)(fc:BF)(fe:VF)(cap:List Nat):VF:=fun env=>(fi env).bind fun ds=>if ds.length<1000000 then(jv fc fe (jC cap env) ds).map .lst else none
section
variable{K:W.Frag}{ns:List Str}
theorem wU{L:Addr→Prop}{H1:Hp}{a:Addr}{vs:List V}{ds:List D}(l:L a)(e:H1 a=some (.lst vs))(r:Rds K ns L H1 vs ds):ItP K ns (Itl K a) ds L H1:=by
 intro L2 i H hL hk
 have l2:=hL _ _ e l
 have e2:=hk _ _ e fun _=>l2
 have r2:=r.mono2 hL (H':=H) (fun b o eb hb=>hk b o eb fun z=>hL _ _ eb (hb z))
 refine⟨fun d hd=> ?_,fun hi=>⟨vs,SqL.of e2,by rw[r.len];omega⟩⟩
 obtain⟨v,ev,rv⟩:=r2.get hd
 refine⟨⟨vs,v,SqL.of e2,ev⟩,fun x H' y=> ?_⟩
 obtain⟨rfl,y⟩:=y
 have:=y _ (SqL.of e2)
 rw[ev] at this
 cases this
 exact⟨Same.refl _,rv.nw⟩
theorem Az{L:Addr→Prop}{H1:Hp}{a:Addr}{vs:List V}{ds:List D}(e:FZ K H1 a vs)(r:Rds K ns L H1 vs ds):ItP K ns (Itl K a) ds L H1:=by
 intro L2 i H hL hk
 have e2:=e.mono hk
 have r2:=r.mono2 hL (H':=H) (fun b o eb hb=>hk b o eb fun z=>hL _ _ eb (hb z))
 refine⟨fun d hd=> ?_,fun hi=>⟨vs,SqL.fz e2,by rw[r.len];omega⟩⟩
 obtain⟨v,ev,rv⟩:=r2.get hd
 refine⟨⟨vs,v,SqL.fz e2,ev⟩,fun x H' y=> ?_⟩
 obtain⟨rfl,y⟩:=y
 have:=y _ (SqL.fz e2)
 rw[ev] at this
 cases this
 exact⟨Same.refl _,rv.nw⟩
theorem vc{L:Addr→Prop}{H1:Hp}{a:Addr}{vs:List V}{ds:List D}(e:∀H,KeepL (fun _=>True) H1 H→SqT K H a vs)(e':∀L2 H,KeepL L2 H1 H→SqT K H a vs)(r:Rds K ns L H1 vs ds):ItP K ns (Itt K a) ds L H1:=by
 intro L2 i H hL hk
 have e2:=e' L2 H hk
 have r2:=r.mono2 hL (H':=H) (fun b o eb hb=>hk b o eb fun z=>hL _ _ eb (hb z))
 refine⟨fun d hd=> ?_,fun hi=>⟨vs,e2,by rw[r.len];omega⟩⟩
 obtain⟨v,ev,rv⟩:=r2.get hd
 refine⟨⟨vs,v,e2,ev⟩,fun x H' y=> ?_⟩
 obtain⟨rfl,y⟩:=y
 have:=y _ e2
 rw[ev] at this
 cases this
 exact⟨Same.refl _,rv.nw⟩
theorem zh{L:Addr→Prop}{H1:Hp}{z:Str}:ItP K ns (Its z) (z.cps.toList.map fun c=> .str ⟨#[c]⟩) L H1:=by
 intro L2 i H hL hk
 refine⟨fun d hd=> ?_,fun hi=>by show i=z.cps.size;rw[←hi,List.length_map,Array.length_toList]⟩
 rw[List.getElem?_map] at hd
 obtain⟨c,hc,rfl⟩:=Option.map_eq_some_iff.mp hd
 have hl:=(List.getElem?_eq_some_iff.mp hc).1
 refine⟨by show i<z.cps.size;simpa using hl,fun x H' y=> ?_⟩
 obtain⟨rfl,c',hc',rfl⟩:=y
 rw[hc] at hc'
 cases hc'
 exact⟨Same.refl _, .str _⟩
theorem db{t:TE}{f:VF}(h:PuE K ns t f):PuI K ns (fun σ H R=>se K t σ H R∨(wo K t σ H R∨yZ t σ H R)) (itD f):=by
 intro L env σ H R ds he hf k
 obtain⟨d,ed,hf⟩:=bnd hf
 cases d<;>first|(cases hf;done)|skip
 · refine .inr (.inr (h L env σ H _ _ he ed fun v H1 S1 r=> ?_))
   cases hf
   cases r
   exact⟨_,rfl,k _ _ S1 zh⟩
 · refine .inr (.inl (h L env σ H _ _ he ed fun v H1 S1 r=> ?_))
   cases hf
   cases r with
   |tup e r=>exact⟨_,rfl,⟨_,SqT.of e⟩,k _ _ S1 (vc (fun H hk=>SqT.of (hk _ _ e fun z=>by cases z)) (fun L2 H hk=>SqT.of (hk _ _ e fun z=>by cases z)) r)⟩
 · refine .inr (.inl (h L env σ H _ _ he ed fun v H1 S1 r=> ?_))
   cases hf
   cases r with
   |kt e r=>exact⟨_,rfl,⟨_,SqT.kt e⟩,k _ _ S1 (vc (fun H hk=>SqT.kt e) (fun L2 H hk=>SqT.kt e) r)⟩
 · refine .inl (h L env σ H _ _ he ed fun v H1 S1 r=> ?_)
   cases hf
   cases r with
   |lst l e r=>exact⟨_,rfl,⟨_,SqL.of e⟩,k _ _ S1 (wU l e r)⟩
 · refine .inl (h L env σ H _ _ he ed fun v H1 S1 r=> ?_)
   cases hf
   cases r with
   |fz e r=>exact⟨_,rfl,⟨_,SqL.fz e⟩,k _ _ S1 (Az e r)⟩
theorem vd{L:Addr→Prop}{H1:Hp}{lo:Int}{n:Nat}:ItP K ns (Itr lo n) ((List.range n).map fun(k:Nat)=>D.int (lo+(k:Int))) L H1:=by
 intro L2 i H hL hk
 refine⟨fun d hd=> ?_,fun hi=>by show n≤i;rw[←hi];simp⟩
 rw[List.getElem?_map] at hd
 obtain⟨c,hc,rfl⟩:=Option.map_eq_some_iff.mp hd
 obtain⟨hl,hc⟩:=List.getElem?_eq_some_iff.mp hc
 rw[List.getElem_range] at hc
 subst hc
 refine⟨by show i<n;simpa using hl,fun x H' y=> ?_⟩
 obtain⟨rfl,rfl⟩:=y
 exact⟨Same.refl _, .int _⟩
theorem kq{n:Nat}{t:TA}{f:AF}(h:PuA K ns n t f):PuI K ns (xM t) (iaD iL f):=by
 intro L env σ H R ds he hf k
 obtain⟨as,ea,hf⟩:=bnd hf
 refine h L env σ H _ as he ea fun vs H1 _ S1 r=> ?_
 unfold iL at hf
 split at hf
 · obtain⟨x,rfl,q⟩:=jj r
   cases q
   split at hf
   · rename_i hb
     cases hf
     exact⟨_,rfl,by have:=hb.1;omega,by have:=hb.2;omega,k _ _ S1 vd⟩
   · cases hf
 · cases hf
theorem sG{n:Nat}{t:TA}{f:AF}(h:PuA K ns n t f):PuI K ns (xN t) (iaD ko f):=by
 intro L env σ H R ds he hf k
 obtain⟨as,ea,hf⟩:=bnd hf
 refine h L env σ H _ as he ea fun vs H1 _ S1 r=> ?_
 unfold ko at hf
 split at hf
 · obtain⟨x,y,rfl,q,q'⟩:=lg r
   cases q
   cases q'
   split at hf
   · rename_i hb
     obtain⟨b1,b2,b3,b4⟩:=hb
     cases hf
     exact⟨_,_,rfl,⟨by omega,by omega,by omega,by omega⟩,k _ _ S1 vd⟩
   · cases hf
 · cases hf
theorem kr{n:Nat}{t:TA}{f:AF}(h:PuA K ns n t f):PuI K ns (x6 K t) (iaD mT f):=by
 intro L env σ H R ds he hf k
 obtain⟨as,ea,hf⟩:=bnd hf
 refine h L env σ H _ as he ea fun vs H1 _ S1 r=> ?_
 unfold mT at hf
 split at hf
 · obtain⟨x,rfl,q⟩:=jj r
   cases hf
   cases q with
   | @lst p us xs l e r=>
     refine⟨_,_,rfl,SqL.of e,k _ _ S1 ?_⟩
     intro L2 i H hL hk
     have l2:=hL _ _ e l
     have e2:=hk _ _ e fun _=>l2
     have r2:=r.mono2 hL (H':=H) (fun b o eb hb=>hk b o eb fun z=>hL _ _ eb (hb z))
     refine⟨fun d hd=> ?_,fun hi=>⟨us,SqL.of e2,by rw[r.len];unfold hU at hi;rw[List.length_mapIdx] at hi;omega⟩⟩
     unfold hU at hd
     rw[List.getElem?_mapIdx] at hd
     obtain⟨c,hc,rfl⟩:=Option.map_eq_some_iff.mp hd
     obtain⟨v,ev,rv⟩:=r2.get hc
     refine⟨⟨us,SqL.of e2,(List.getElem?_eq_some_iff.mp ev).1⟩,fun x H' y=> ?_⟩
     obtain⟨T,a,hT,rfl,rfl,y⟩:=y
     have:=y _ (SqL.of e2)
     rw[ev] at this
     cases this
     have N:=bZ hT (.tup [.int i,v])
     exact⟨N, .tup bV (.cons (.int _) (.cons (rv.nw.same N) .nil))⟩
 · cases hf
theorem wV{n:Nat}{t:TA}{f:AF}(h:PuA K ns n t f):PuI K ns (fun σ H R=>Ai K t σ H R∨x8 K t σ H R) (iaD va f):=by
 intro L env σ H R ds he hf k
 obtain⟨as,ea,hf⟩:=bnd hf
 unfold va at hf
 split at hf
 · rename_i xs ys
   refine .inl (h L env σ H _ _ he ea fun vs H1 _ S1 r=> ?_)
   obtain⟨x,y,rfl,q,q'⟩:=lg r
   clear r
   cases hf
   cases q with
   | @lst p us _ l e r=>
     cases q' with
     | @lst p' us' _ l' e' r'=>
       refine⟨_,_,_,_,rfl,SqL.of e,SqL.of e',k _ _ S1 ?_⟩
       intro L2 i H hL hk
       have l2:=hL _ _ e l
       have e2:=hk _ _ e fun _=>l2
       have l2':=hL _ _ e' l'
       have e2':=hk _ _ e' fun _=>l2'
       have kk:KeepL _ H1 H:=fun b o eb hb=>hk b o eb fun z=>hL _ _ eb (hb z)
       have r2:=r.mono2 hL kk
       have r2':=r'.mono2 hL kk
       refine⟨fun d hd=> ?_,fun hi=>⟨us,us',SqL.of e2,SqL.of e2',by unfold lV at hi;rw[List.length_zipWith] at hi;rw[r.len,r'.len];omega⟩⟩
       unfold lV at hd
       rw[List.getElem?_zipWith] at hd
       cases hx:xs[i]? with
       |none=>rw[hx] at hd;cases hd
       |some c=>
        cases hy:ys[i]? with
        |none=>rw[hx,hy] at hd;cases hd
        |some c'=>
         rw[hx,hy] at hd
         cases hd
         obtain⟨v,ev,rv⟩:=r2.get hx
         obtain⟨v',ev',rv'⟩:=r2'.get hy
         refine⟨⟨us,us',SqL.of e2,SqL.of e2',(List.getElem?_eq_some_iff.mp ev).1,(List.getElem?_eq_some_iff.mp ev').1⟩,fun x H' y=> ?_⟩
         obtain⟨T,a,b,hT,rfl,rfl,y,y'⟩:=y
         have h1:=y _ (SqL.of e2)
         have h2:=y' _ (SqL.of e2')
         rw[ev] at h1
         rw[ev'] at h2
         cases h1
         cases h2
         have N:=bZ hT (.tup [v,v'])
         exact⟨N, .tup bV (.cons (rv.nw.same N) (.cons (rv'.nw.same N) .nil))⟩
 · rename_i xs ys
   refine .inr (h L env σ H _ _ he ea fun vs H1 _ S1 r=> ?_)
   obtain⟨x,y,rfl,q,q'⟩:=lg r
   clear r
   split at hf
   case isFalse=>cases hf
   rename_i hzl
   cases hf
   cases q with
   | @tup p us _ e r=>
     cases q' with
     | @tup p' us' _ e' r'=>
       refine⟨_,_,_,_,rfl,SqT.of e,SqT.of e',k _ _ S1 ?_⟩
       intro L2 i H hL hk
       have e2:=hk _ _ e fun z=>by cases z
       have e2':=hk _ _ e' fun z=>by cases z
       have kk:KeepL _ H1 H:=fun b o eb hb=>hk b o eb fun z=>hL _ _ eb (hb z)
       have r2:=r.mono2 hL kk
       have r2':=r'.mono2 hL kk
       refine⟨fun d hd=> ?_,fun hi=> ?_⟩
       · unfold lV at hd
         rw[List.getElem?_zipWith] at hd
         cases hx:xs[i]? with
         |none=>rw[hx] at hd;cases hd
         |some c=>
          cases hy:ys[i]? with
          |none=>rw[hx,hy] at hd;cases hd
          |some c'=>
           rw[hx,hy] at hd
           cases hd
           obtain⟨v,ev,rv⟩:=r2.get hx
           obtain⟨v',ev',rv'⟩:=r2'.get hy
           refine⟨⟨us,us',SqT.of e2,SqT.of e2',(List.getElem?_eq_some_iff.mp ev).1,(List.getElem?_eq_some_iff.mp ev').1⟩,fun x H' y=> ?_⟩
           obtain⟨T,a,b,hT,rfl,rfl,y,y'⟩:=y
           have h1:=y _ (SqT.of e2)
           have h2:=y' _ (SqT.of e2')
           rw[ev] at h1
           rw[ev'] at h2
           cases h1
           cases h2
           have N:=bZ hT (.tup [v,v'])
           exact⟨N, .tup bV (.cons (rv.nw.same N) (.cons (rv'.nw.same N) .nil))⟩
       · exact⟨us,us',SqT.of e2,SqT.of e2',by unfold lV at hi;rw[List.length_zipWith] at hi;rw[r.len];omega⟩
 · cases hf
theorem sH{L:Addr→Prop}{env:Env}{σ:St}{H:Hp}{x:V}{d:D}{cap:List Nat}(he:EnvR K ns L env σ H)(hx:Rd K ns L H x d):EnvR K ns L (some d::jC cap env) (mN cap (some x) σ) H:=by
 intro i d' e
 cases i with
 |zero=>cases e;exact⟨x,rfl,hx⟩
 |succ i=>
  have e':(jC cap env)[i]? =some (some d'):=e
  unfold jC at e'
  rw[List.getElem?_map] at e'
  obtain⟨c,hc,e'⟩:=Option.map_eq_some_iff.mp e'
  cases q:env[c]? with
  |none=>rw[q] at e';cases e'
  |some o=>
   rw[q] at e'
   have e2:o=some d':=e'
   subst e2
   obtain⟨v,hv,r⟩:=he c d' q
   refine⟨v, ?_,r⟩
   show (cap.map fun i=>(σ[i]?).join)[i]? =_
   rw[List.getElem?_map,hc]
   show some ((σ[c]?).join)=_
   rw[hv]
   rfl
theorem EnvR.mono2{L L':Addr→Prop}{env:Env}{σ:St}{H H':Hp}(h:EnvR K ns L env σ H)(hL:∀a o,H a=some o→L a→L' a)(hk:KeepL L H H'):EnvR K ns L' env σ H':=fun i d e=>by
 obtain⟨v,q,r⟩:=h i d e
 exact⟨v,q,r.mono2 hL hk⟩
abbrev Lx(L:Addr→Prop)(H:Hp)(acc:Addr):Addr→Prop:=fun a=>Nw L H a∧a≠acc
theorem dw{wi:TI}{tc:TT}{te:TE}{fi:AF}{fc:BF}{fe:VF}{cap:List Nat}(hi:PuI K ns wi fi)(hc:PuT K ns tc fc)(he:PuE K ns te fe):PuF K ns (sw wi tc te cap) (bX fi fc fe cap):=by
 intro L env σ H Q d hE hf k
 obtain⟨ds,ei,hf⟩:=bnd hf
 split at hf
 case isFalse=>cases hf
 rename_i hn
 obtain⟨out,eo,rfl⟩:=Option.map_eq_some_iff.mp hf
 refine hi L env σ H _ ds hE ei fun J H1 S1 it=> ?_
 intro acc ha
 have hacc:H acc=none:=gX S1 ha
 have E1:EnvR K ns (Lx L H acc) env σ H1:=(hE.mono2 (L':=Lx L H acc) (fun a o e l=>⟨.inl l,bL e hacc⟩) .refl).same S1
 refine⟨fun i m H2=>m=ds.length-i∧i≤ds.length∧Same H1 H2∧∃ys dn gU,H2 acc=some (.lst ys)∧Rds K ns (Lx L H acc) H2 ys dn∧ys.length≤i∧jv fc fe (jC cap env) (ds.drop i)=some gU∧dn++gU=out,⟨_,rfl,Nat.zero_le _,bZ ha _,[],[],out,bV, .nil,Nat.le_refl _,by rw[List.drop_zero];exact eo,rfl⟩, ?_⟩
 rintro i m H2 ⟨rfl,hle,S2,ys,dn,gU,ea,rd,hy,ec,ed⟩
 obtain⟨go,stop⟩:=it (Lx L H acc) i H2 (fun a o e l=>⟨l,bL e ha⟩) (.of S2)
 by_cases hlt:i<ds.length
 · obtain⟨g,yl⟩:=go ds[i] (List.getElem?_eq_getElem hlt)
   refine .inr ⟨g,fun x H3 y=> ?_⟩
   obtain⟨S3,rx⟩:=yl x H3 y
   have ea3:=S3 _ _ ea
   have E3:EnvR K ns (Lx L H acc) (some ds[i]::jC cap env) (mN cap (some x) σ) H3:=sH ((E1.same S2).same S3) (rx.mono2 (fun a o e l=>by
    rcases l with l|l
    · exact l
    · exact⟨.inr (gX (S1.trans S2) l),fun z=>by rw[z,ea] at l;cases l⟩) .refl)
   rw[List.drop_eq_getElem_cons hlt] at ec
   obtain⟨b,eb,ec⟩:=bnd ec
   refine hc _ _ _ _ _ b E3 eb fun H4 S4=> ?_
   have ea4:=S4 _ _ ea3
   cases b with
   |false=>
    rw[if_neg Bool.false_ne_true] at ec ⊢
    exact⟨ds.length-(i+1),by omega,rfl,hlt,S2.trans (S3.trans S4),ys,dn,gU,ea4,rd.same (S3.trans S4),by omega,ec,ed⟩
   |true=>
    rw[if_pos rfl] at ec ⊢
    obtain⟨y,ey,ec⟩:=bnd ec
    obtain⟨rest',er,rfl⟩:=Option.map_eq_some_iff.mp ec
    refine he _ _ _ _ _ y (E3.same S4) ey fun v H5 S5 rv=> ?_
    have ea5:=S5 _ _ ea4
    have SS:=S3.trans (S4.trans S5)
    have up:∀{L3:Addr→Prop},¬L3 acc→KeepL L3 H5 (upd H5 acc (.lst (ys++[v]))):=fun {L3} hl a o e hm=>by
     by_cases z:a=acc
     · subst z
       rw[ea5] at e
       cases e
       exact absurd (hm rfl) hl
     · rw[bO z];exact e
    have rv2:Rd K ns (Lx L H acc) H5 v y:=rv.mono2 (fun a o e l=>by
     rcases l with l|l
     · exact l
     · exact⟨.inr (gX (S1.trans (S2.trans (S3.trans S4))) l),fun z=>by rw[z,ea4] at l;cases l⟩) .refl
    refine⟨ys,ea5,Nat.lt_of_le_of_lt hy (Nat.lt_trans hlt (Nat.lt_trans hn (by decide))),ds.length-(i+1),by omega,rfl,hlt,fun a o e=> ?_,ys++[v],dn++[y],rest',bV, ?_, ?_,er,by rw[←ed];simp⟩
    · rw[bO (bL e ha)]
      exact SS _ _ (S2 _ _ e)
    · exact((rd.same SS).append (.cons rv2 .nil)).mono (fun _ q=>q) (up fun q=>q.2 rfl)
    · rw[List.length_append,List.length_singleton];omega
 · have hi':ds.length=i:=by omega
   refine .inl ⟨stop hi', ?_⟩
   rw[List.drop_of_length_le (by omega)] at ec
   cases ec
   rw[List.append_nil] at ed
   subst ed
   exact k acc ys dn H2 rfl (S1.trans S2) hacc ea rd
end
end PD
namespace PD
open PySem L2
inductive Fr where
 |no|yes|pr|nw
inductive Out where
 |nx (e:Env)|rt (d:D)|bk (e:Env)|ct (e:Env)
abbrev SF:=Env→Option Out
def aT(F G:SF):SF:=fun env=>(F env).bind fun| .nx e=>G e|o=>some o
def nxS:SF:=fun env=>some (.nx env)
def bd(f:VF):SF:=fun env=>(f env).bind fun d=>some (.rt d)
def aZ(f:VF):SF:=fun env=>(f env).bind fun _=>some (.nx env)
def ifS(c:BF)(F G:SF):SF:=fun env=>(c env).bind fun x=>if x=true then F env else G env
def fj(fl:List Bool)(env:Env):Env:=List.zipWith (fun b o=>if b=true then none else o) fl env
abbrev mk(fl:List Bool){α:Type}(f:Env→α):Env→α:=fun env=>f (fj fl env)
def a7(i:Nat)(f:VF):SF:=fun env=>(f env).bind fun d=>some (.nx (env.set i (some d)))
def bH(i:Nat)(f:VF):SF:=fun env=>(f env).bind fun d=>if d.flat=true then some (.nx (env.set i (some d))) else none
def e8(i:Nat)(env:Env):Option (List D):=(env[i]?).join.bind fun| .lst xs=>some xs|_=>none
def bq(i:Nat)(f:VF):SF:=fun env=>(f env).bind fun d=>(e8 i env).bind fun xs=>if xs.length<1000000 then some (.nx (env.set i (some (.lst (xs++[d]))))) else none
def bE(i:Nat)(f:VF):SF:=fun env=>(f env).bind fun d=>if d.flat=true then(e8 i env).bind fun xs=>if xs.length<1000000 then some (.nx (env.set i (some (.lst (xs++[d]))))) else none else none
def bA(i:Nat)(f:VF):SF:=fun env=>(f env).bind fun| .lst ys=>(e8 i env).bind fun xs=>if xs.length+ys.length<1000000 then some (.nx (env.set i (some (.lst (xs++ys))))) else none|_=>none
def bF(i:Nat):SF:=fun env=>(e8 i env).bind fun xs=>some (.nx (env.set i (some (.lst xs.reverse))))
abbrev GF:=D→Env→Option Env
def nmG(i:Nat):GF:=fun d env=>some (env.set i (some d))
def aX:List Nat→List D→Env→Option Env
 |[],[],env=>some env
 |i::is,d::ds,env=>aX is ds (env.set i (some d))
 |_,_,_=>none
def bB(is:List Nat):GF:=fun d env=>match d with
 | .tup ds=>aX is ds env
 | .kt ds=>aX is ds env
 |_=>none
def bI(f:VF)(g:GF):SF:=fun env=>(f env).bind fun d=>(g d env).bind fun e=>some (.nx e)
def fk(g:GF)(b:SF):List D→SF
 |[],env=>some (.nx env)
 |x::xs,env=>(g x env).bind fun e=>(b e).bind fun
  | .nx e=>fk g b xs e
  | .ct e=>fk g b xs e
  | .bk e=>some (.nx e)
  | .rt d=>some (.rt d)
def bn(fi:AF)(g:GF)(b:SF):SF:=fun env=>(fi env).bind fun ds=>fk g b ds env
def whN(c:BF)(b:SF):Nat→SF
 |0,_=>none
 |n+1,env=>(c env).bind fun x=>if x=true then(b env).bind fun
  | .nx e=>whN c b n e
  | .ct e=>whN c b n e
  | .bk e=>some (.nx e)
  | .rt d=>some (.rt d)
  else some (.nx env)
def whS(c:BF)(b:SF):SF:=whN c b 1000000
theorem rN{c:BF}{b:SF}:∀{n m:Nat} {env:Env} {o:Out},whN c b n env=some o→n≤m→whN c b m env=some o
 |0,_,_,_,h,_=>by cases h
 |n+1,0,_,_,_,hm=>by omega
 |n+1,m+1,env,o,h,hm=>by
  rw[whN] at h ⊢
  obtain⟨x,ex,h⟩:=bnd h
  rw[ex]
  show (if x=true then _ else _)=_
  cases x with
  |false=>exact h
  |true=>
   rw[if_pos rfl] at h ⊢
   obtain⟨r,er,h⟩:=bnd h
   rw[er]
   cases r with
   |nx e=>exact rN (n:=n) (m:=m) h (by omega)
   |ct e=>exact rN (n:=n) (m:=m) h (by omega)
   |bk e=>exact h
   |rt d=>exact h
theorem ve{c:BF}{b:SF}{n:Nat}{env:Env}{o:Out}(h:whN c b n env=some o)(hn:n≤1000000:=by omega):whS c b env=some o:=rN h hn
section
variable(K:W.Frag)(ns:List Str)
abbrev Lm(L0:Addr→Prop)(H0:Hp)(O:List (Option Addr)):Addr→Prop:=fun a=>Nw L0 H0 a∧some a∉O
structure Iv(fl:List Bool)(L0:Addr→Prop)(H0:Hp)(O:List (Option Addr))(env:Env)(σ:St)(H:Hp):Prop where
 sm:Same H0 H
 fl:O.map Option.isSome=fl
 ln:σ.length=O.length
 le:env.length=O.length
 rd:∀(i:Nat) (d:D),env[i]? =some (some d)→O[i]? =some none→∃v,σ[i]? =some (some v)∧Rd K ns (Lm L0 H0 O) H v d
 ow:∀(i:Nat) (p:Addr),O[i]? =some (some p)→H0 p=none∧σ[i]? =some (some (.ref p))∧∃o d,env[i]? =some (some d)∧H p=some o∧RdO K ns (Lm L0 H0 O) H o d
 inj:∀(i j:Nat) (p:Addr),O[i]? =some (some p)→O[j]? =some (some p)→i=j
structure Step(O:List (Option Addr))(H:Hp)(O':List (Option Addr))(H':Hp):Prop where
 ow:∀p,some p∈O'→some p∈O∨H p=none
 kp:∀a o,H a=some o→some a∉O→H' a=some o
 dm:∀a,H' a=none→H a=none
def Res(fr:Fr)(L0:Addr→Prop)(H0 H':Hp)(v:V)(d:D):Prop:=match fr with
 | .no=>Rd K ns (Nw L0 H0) H' v d
 | .yes=>∃p us ds,v= .ref p∧d= .lst ds∧H0 p=none∧H' p=some (.lst us)∧Rds K ns (fun a=>Nw L0 H0 a∧a≠p) H' us ds
 | .pr=>∃t p us ds v2 d2,v= .ref t∧d= .tup [.lst ds,d2]∧H' t=some (.tup [.ref p,v2])∧H0 p=none∧H' p=some (.lst us)∧Rds K ns (fun a=>Nw L0 H0 a∧a≠p) H' us ds∧Rd K ns (fun _=>False) H' v2 d2
 | .nw=>Rd K ns (fun a=>H0 a=none) H' v d
def Fin(fr:Fr)(lf fl:List Bool)(L0:Addr→Prop)(H0:Hp)(O:List (Option Addr))(H:Hp)(E:Ends):Option Out→Prop
 |some (.nx e)=>∀O' σ' H',Step O H O' H'→Iv K ns fl L0 H0 O' e σ' H'→E.nx σ' H'
 |some (.bk e)=>∀O' σ' H',Step O H O' H'→Iv K ns lf L0 H0 O' e σ' H'→E.bk σ' H'
 |some (.ct e)=>∀O' σ' H',Step O H O' H'→Iv K ns lf L0 H0 O' e σ' H'→E.ct σ' H'
 |some (.rt d)=>∀v H',Same H0 H'→Res K ns fr L0 H0 H' v d→E.rt v H'
 |none=>False
def PuS(fr:Fr)(lf fl:List Bool)(t:TS)(F:SF)(fl':List Bool):Prop:=∀(L0:Addr→Prop) (H0:Hp) (O:List (Option Addr)) (env:Env) (σ:St) (H:Hp) (E:Ends),Iv K ns fl L0 H0 O env σ H→Fin K ns fr lf fl' L0 H0 O H E (F env)→t E σ H
def PuG(fl:List Bool)(g:TG)(G:GF):Prop:=∀(L0:Addr→Prop) (H0:Hp) (O:List (Option Addr)) (env e:Env) (σ:St) (H:Hp) (x:V) (d:D) (Q:St→Hp→Prop),Iv K ns fl L0 H0 O env σ H→Rd K ns (Lm L0 H0 O) H x d→G d env=some e→(∀σ',Iv K ns fl L0 H0 O e σ' H→Q σ' H)→g x σ H Q
end
section
variable{K:W.Frag}{ns:List Str}{fr:Fr}{lf fl fl' fl'':List Bool}{L0:Addr→Prop}{H0 H H' H'':Hp}{O O' O'':List (Option Addr)}{env:Env}{σ:St}
theorem Step.refl:Step O H O H:=⟨fun _ h=> .inl h,fun _ _ e _=>e,fun _ h=>h⟩
theorem Step.trans(a:Step O H O' H')(b:Step O' H' O'' H''):Step O H O'' H'' where
 ow p h:=by
  rcases b.ow p h with h|h
  · exact a.ow p h
  · exact .inr (a.dm _ h)
 kp c o e h:=b.kp c o (a.kp c o e h) fun q=>by
  rcases a.ow c q with q|q
  · exact h q
  · rw[e] at q;cases q
 dm c h:=a.dm c (b.dm c h)
theorem Step.same(S:Same H H'):Step O H O H':=⟨fun _ h=> .inl h,fun _ _ e _=>S _ _ e,fun _ h=>gX S h⟩
theorem Iv.same(I:Iv K ns fl L0 H0 O env σ H)(S:Same H H'):Iv K ns fl L0 H0 O env σ H' where
 sm:=I.sm.trans S
 fl:=I.fl
 ln:=I.ln
 le:=I.le
 rd i d e h:=by
  obtain⟨v,q,r⟩:=I.rd i d e h
  exact⟨v,q,r.same S⟩
 ow i p h:=by
  obtain⟨h0,q,vs,ds,e,hp,r⟩:=I.ow i p h
  exact⟨h0,q,vs,ds,e,S _ _ hp,r.same S⟩
 inj:=I.inj
theorem Iv.own_in(I:Iv K ns fl L0 H0 O env σ H){p:Addr}(h:some p∈O):∃o,H p=some o∧u4 o=true:=by
 obtain⟨i,hi,e⟩:=List.getElem_of_mem h
 obtain⟨_,_,vs,_,_,hp,hr⟩:=I.ow i p (by rw[List.getElem?_eq_getElem hi,e])
 exact⟨vs,hp,hr.mut⟩
theorem Iv.new_m(I:Iv K ns fl L0 H0 O env σ H){a:Addr}(h:H a=none):Lm L0 H0 O a:=⟨.inr (gX I.sm h),fun q=>by
 obtain⟨vs,e,_⟩:=I.own_in q
 rw[h] at e
 cases e⟩
theorem Iv.nwm(I:Iv K ns fl L0 H0 O env σ H){a:Addr}(h:Nw (Lm L0 H0 O) H a):Lm L0 H0 O a:=h.elim id I.new_m
theorem Iv.weak(I:Iv K ns fl L0 H0 O env σ H):EnvR K ns (Nw L0 H0) env σ H:=fun i d e=>by
 have hi:i<O.length:=by rw[←I.le];exact(List.getElem?_eq_some_iff.mp e).1
 cases q:O[i]? with
 |none=>rw[List.getElem?_eq_getElem hi] at q;cases q
 |some o=>
  cases o with
  |none=>
   obtain⟨v,hv,r⟩:=I.rd i d e q
   exact⟨v,hv,r.mono (fun _ z=>z.1) .refl⟩
  |some p=>
   obtain⟨h0,hs,vs,ds,e',hp,r⟩:=I.ow i p q
   rw[e] at e'
   cases e'
   exact⟨_,hs,(r.mono (fun _ z=>z.1) .refl).rd (.inr h0) hp⟩
theorem vf{i:Nat}{d:D}(h:(fj fl env)[i]? =some (some d)):fl[i]? =some false∧env[i]? =some (some d):=by
 unfold fj at h
 rw[List.getElem?_zipWith] at h
 cases e1:fl[i]? with
 |none=>rw[e1] at h;cases h
 |some b=>
  cases e2:env[i]? with
  |none=>rw[e1,e2] at h;cases h
  |some o=>
   rw[e1,e2] at h
   cases b with
   |true=>cases h
   |false=>exact⟨rfl,by cases h;rfl⟩
theorem Iv.flag(I:Iv K ns fl L0 H0 O env σ H){i:Nat}{b:Bool}(h:fl[i]? =some b):∃o,O[i]? =some o∧o.isSome=b:=by
 rw[←I.fl,List.getElem?_map] at h
 obtain⟨o,ho,e⟩:=Option.map_eq_some_iff.mp h
 exact⟨o,ho,e⟩
theorem Iv.free(I:Iv K ns fl L0 H0 O env σ H){i:Nat}(h:fl[i]? =some false):O[i]? =some none:=by
 obtain⟨o,ho,e⟩:=I.flag h
 cases o with
 |none=>exact ho
 |some p=>cases e
theorem Iv.owned(I:Iv K ns fl L0 H0 O env σ H){i:Nat}(h:fl[i]? =some true):∃p,O[i]? =some (some p):=by
 obtain⟨o,ho,e⟩:=I.flag h
 cases o with
 |none=>cases e
 |some p=>exact⟨p,ho⟩
theorem Iv.strict(I:Iv K ns fl L0 H0 O env σ H):EnvR K ns (Lm L0 H0 O) (fj fl env) σ H:=fun i d e=>by
 obtain⟨h1,h2⟩:=vf e
 exact I.rd i d h2 (I.free h1)
theorem ga{i:Nat}{a:Addr}(h:some a∈O.set i none):some a∈O:=by
 rcases List.mem_or_eq_of_mem_set h with q|q
 · exact q
 · cases q
theorem Iv.store(I:Iv K ns fl L0 H0 O env σ H){i:Nat}{v:V}{d:D}(r:Rd K ns (Lm L0 H0 O) H v d):Iv K ns (fl.set i false) L0 H0 (O.set i none) (env.set i (some d)) (σ.set i (some v)) H:=by
 have up:∀a,Lm L0 H0 O a→Lm L0 H0 (O.set i none) a:=fun a h=>⟨h.1,fun q=>h.2 (ga q)⟩
 refine⟨I.sm,by rw[←I.fl,List.map_set];rfl,by simp[I.ln],by simp[I.le],fun j d' e h=> ?_,fun j p h=> ?_,fun j k p h1 h2=> ?_⟩
 · rw[List.getElem?_set] at e
   rw[List.getElem?_set]
   split at e
   · rename_i z
     rw[if_pos z]
     split at e
     · rename_i hl
       cases e
       rw[if_pos (by rw[I.ln,←I.le];exact hl)]
       exact⟨v,rfl,r.mono up .refl⟩
     · cases e
   · rename_i z
     rw[if_neg z]
     rw[List.getElem?_set,if_neg z] at h
     obtain⟨v',q,r'⟩:=I.rd j d' e h
     exact⟨v',q,r'.mono up .refl⟩
 · rw[List.getElem?_set] at h
   split at h
   · split at h<;>cases h
   · rename_i z
     obtain⟨h0,hs,vs,ds,e,hp,r'⟩:=I.ow j p h
     exact⟨h0,by rw[List.getElem?_set,if_neg z];exact hs,vs,ds,by rw[List.getElem?_set,if_neg z];exact e,hp,r'.mono up .refl⟩
 · rw[List.getElem?_set] at h1 h2
   split at h1
   · split at h1<;>cases h1
   · split at h2
     · split at h2<;>cases h2
     · exact I.inj j k p h1 h2
theorem Iv.give(I:Iv K ns fl L0 H0 O env σ H)(i:Nat):Iv K ns (fl.set i false) L0 H0 (O.set i none) env σ H:=by
 have up:∀a,Lm L0 H0 O a→Lm L0 H0 (O.set i none) a:=fun a h=>⟨h.1,fun q=>h.2 (ga q)⟩
 refine⟨I.sm,by rw[←I.fl,List.map_set];rfl,by simp[I.ln],by simp[I.le],fun j d' e h=> ?_,fun j p h=> ?_,fun j k p h1 h2=> ?_⟩
 · have hj:j<O.length:=by rw[←I.le];exact(List.getElem?_eq_some_iff.mp e).1
   cases q:O[j]? with
   |none=>rw[List.getElem?_eq_getElem hj] at q;cases q
   |some o=>
    cases o with
    |none=>
     obtain⟨v',q,r'⟩:=I.rd j d' e q
     exact⟨v',q,r'.mono up .refl⟩
    |some p=>
     obtain⟨h0,hs,vs,ds,e',hp,r⟩:=I.ow j p q
     rw[e] at e'
     cases e'
     refine⟨_,hs,(r.mono up .refl).rd ⟨.inr h0,fun z=> ?_⟩ hp⟩
     obtain⟨k,hk,ek⟩:=List.getElem_of_mem z
     have hk':(O.set i none)[k]? =some (some p):=by rw[List.getElem?_eq_getElem hk,ek]
     rw[List.getElem?_set] at hk'
     split at hk'
     · split at hk'<;>cases hk'
     · rename_i hik
       have:=I.inj j k p q hk'
       subst this
       rw[List.getElem?_set,if_neg hik,q] at h
       cases h
 · rw[List.getElem?_set] at h
   split at h
   · split at h<;>cases h
   · obtain⟨h0,hs,vs,ds,e,hp,r'⟩:=I.ow j p h
     exact⟨h0,hs,vs,ds,e,hp,r'.mono up .refl⟩
 · rw[List.getElem?_set] at h1 h2
   split at h1
   · split at h1<;>cases h1
   · split at h2
     · split at h2<;>cases h2
     · exact I.inj j k p h1 h2
theorem Step.give(i:Nat):Step O H (O.set i none) H:=⟨fun _ h=> .inl (ga h),fun _ _ e _=>e,fun _ h=>h⟩
theorem Iv.takeO(I:Iv K ns fl L0 H0 O env σ H){i:Nat}{p:Addr}{vs:HO}{ds:D}(S:Same H H')(hp:H p=none)(e:H' p=some vs)(r:RdO K ns (fun a=>Nw (Lm L0 H0 O) H a∧a≠p) H' vs ds)(hi:i<O.length):
 Iv K ns (fl.set i true) L0 H0 (O.set i (some p)) (env.set i (some ds)) (σ.set i (some (.ref p))) H':=by
 have up:∀a o,H a=some o→Lm L0 H0 O a→Lm L0 H0 (O.set i (some p)) a:=fun a o ea h=>⟨h.1,fun q=>by
  rcases List.mem_or_eq_of_mem_set q with q|q
  · exact h.2 q
  · cases q
    rw[hp] at ea
    cases ea⟩
 have np:some p∉O:=fun q=>by
  obtain⟨vs,e,_⟩:=I.own_in q
  rw[hp] at e
  cases e
 refine⟨I.sm.trans S,by rw[←I.fl,List.map_set];rfl,by simp[I.ln],by simp[I.le],fun j d' e' h=> ?_,fun j p' h=> ?_,fun j k p' h1 h2=> ?_⟩
 · by_cases z:i=j
   · subst z
     rw[List.getElem?_set,if_pos rfl,if_pos hi] at h
     cases h
   · rw[List.getElem?_set,if_neg z] at h
     rw[List.getElem?_set,if_neg z] at e' ⊢
     obtain⟨v',q,r'⟩:=I.rd j d' e' h
     exact⟨v',q,r'.mono2 up (.of S)⟩
 · by_cases z:i=j
   · subst z
     rw[List.getElem?_set,if_pos rfl,if_pos hi] at h
     cases h
     refine⟨gX I.sm hp,by rw[List.getElem?_set,if_pos rfl,if_pos (by rw[I.ln];exact hi)],vs,ds,by rw[List.getElem?_set,if_pos rfl,if_pos (by rw[I.le];exact hi)],e,r.mono (fun a q=> ?_) .refl⟩
     have:=I.nwm q.1
     refine⟨this.1,fun z=> ?_⟩
     rcases List.mem_or_eq_of_mem_set z with z|z
     · exact this.2 z
     · cases z
       exact q.2 rfl
   · rw[List.getElem?_set,if_neg z] at h
     obtain⟨h0,hs,us,es,e',hp',r'⟩:=I.ow j p' h
     exact⟨h0,by rw[List.getElem?_set,if_neg z];exact hs,us,es,by rw[List.getElem?_set,if_neg z];exact e',S _ _ hp',r'.mono2 up (.of S)⟩
 · rw[List.getElem?_set] at h1 h2
   by_cases zj:i=j
   · subst zj
     rw[if_pos rfl,if_pos hi] at h1
     cases h1
     by_cases zk:i=k
     · exact zk
     · rw[if_neg zk] at h2
       exact absurd (List.mem_of_getElem? h2) np
   · rw[if_neg zj] at h1
     by_cases zk:i=k
     · subst zk
       rw[if_pos rfl,if_pos hi] at h2
       cases h2
       exact absurd (List.mem_of_getElem? h1) np
     · rw[if_neg zk] at h2
       exact I.inj j k p' h1 h2
theorem Iv.take(I:Iv K ns fl L0 H0 O env σ H){i:Nat}{p:Addr}{vs:List V}{ds:List D}(S:Same H H')(hp:H p=none)(e:H' p=some (.lst vs))(r:Rds K ns (fun a=>Nw (Lm L0 H0 O) H a∧a≠p) H' vs ds)(hi:i<O.length):
 Iv K ns (fl.set i true) L0 H0 (O.set i (some p)) (env.set i (some (.lst ds))) (σ.set i (some (.ref p))) H':=I.takeO (vs:= .lst vs) (ds:= .lst ds) S hp e r hi
theorem Step.take{i:Nat}{p:Addr}(S:Same H H')(hp:H p=none):Step O H (O.set i (some p)) H':=⟨fun q h=>by
 rcases List.mem_or_eq_of_mem_set h with h|h
 · exact .inl h
 · cases h
   exact .inr hp,fun _ _ e _=>S _ _ e,fun _ h=>gX S h⟩
theorem Iv.alterO(I:Iv K ns fl L0 H0 O env σ H){i:Nat}{p:Addr}{vs:HO}{ds:D}(ho:O[i]? =some (some p))(r:RdO K ns (Lm L0 H0 O) H vs ds):
 Iv K ns fl L0 H0 O (env.set i (some ds)) σ (upd H p vs):=by
 obtain⟨h0,hs,us,es,e,hp,ru⟩:=I.ow i p ho
 have np:¬Lm L0 H0 O p:=fun q=>q.2 (List.mem_of_getElem? ho)
 have kp:KeepL (Lm L0 H0 O) H (upd H p vs):=fun a o ea hm=>by
  by_cases z:a=p
  · subst z
    rw[hp] at ea
    cases ea
    exact absurd (hm ru.mut) np
  · rw[bO z];exact ea
 refine⟨fun b o eb=> ?_,I.fl,I.ln,by simp[I.le],fun j d' e' h=> ?_,fun j p' h=> ?_,I.inj⟩
 · rw[bO (bL eb h0)]
   exact I.sm _ _ eb
 · rw[List.getElem?_set] at e'
   split at e'
   · rename_i z
     subst z
     rw[ho] at h
     cases h
   · obtain⟨v',q,r'⟩:=I.rd j d' e' h
     exact⟨v',q,r'.mono (fun _ q=>q) kp⟩
 · obtain⟨h0',hs',us',es',e2,hp',r'⟩:=I.ow j p' h
   by_cases z:i=j
   · subst z
     rw[ho] at h
     cases h
     exact⟨h0,hs,vs,ds,by rw[List.getElem?_set,if_pos rfl,if_pos (List.getElem?_eq_some_iff.mp e).1],bV,r.mono (fun _ q=>q) kp⟩
   · have pp:p'≠p:=fun q=>by
      subst q
      exact z (I.inj i j p' ho h)
     exact⟨h0',hs',us',es',by rw[List.getElem?_set,if_neg z];exact e2,by rw[bO pp];exact hp',r'.mono (fun _ q=>q) kp⟩
theorem Iv.alter(I:Iv K ns fl L0 H0 O env σ H){i:Nat}{p:Addr}{vs:List V}{ds:List D}(ho:O[i]? =some (some p))(r:Rds K ns (Lm L0 H0 O) H vs ds):
 Iv K ns fl L0 H0 O (env.set i (some (.lst ds))) σ (upd H p (.lst vs)):=I.alterO (vs:= .lst vs) (ds:= .lst ds) ho r
theorem Step.alter{p:Addr}{vs:HO}(h:some p∈O):Step O H O (upd H p vs):=⟨fun _ q=> .inl q,fun a o e hn=>by rw[bO fun z=>hn (by rw[z];exact h)];exact e,fun a q=>by
 by_cases z:a=p
 · subst z
   rw[bV] at q
   cases q
 · rw[bO z] at q
   exact q⟩
theorem Fin.mono{E E':Ends}{o:Option Out}(T:Step O H O' H')(h:Fin K ns fr lf fl' L0 H0 O H E o)(hr:E.rt=E'.rt)(hn:E.nx=E'.nx)(hb:E.bk=E'.bk)(hc:E.ct=E'.ct):Fin K ns fr lf fl' L0 H0 O' H' E' o:=by
 cases o with
 |none=>exact h
 |some o=>
  cases o with
  |nx e=>intro O2 σ2 H2 T2 I2;rw[←hn];exact h O2 σ2 H2 (T.trans T2) I2
  |rt d=>intro v H2 S2 r2;rw[←hr];exact h v H2 S2 r2
  |bk e=>intro O2 σ2 H2 T2 I2;rw[←hb];exact h O2 σ2 H2 (T.trans T2) I2
  |ct e=>intro O2 σ2 H2 T2 I2;rw[←hc];exact h O2 σ2 H2 (T.trans T2) I2
theorem bM{t u:TS}{F G:SF}(a:PuS K ns fr lf fl t F fl')(b:PuS K ns fr lf fl' u G fl''):PuS K ns fr lf fl (iP t u) (aT F G) fl'':=by
 intro L0 H0 O env σ H E I h
 refine a L0 H0 O env σ H _ I ?_
 unfold aT at h
 cases e:F env with
 |none=>rw[e] at h;exact h
 |some o=>
  rw[e] at h
  cases o with
  |nx e2=>exact fun O' σ' H' T I'=>b L0 H0 O' e2 σ' H' E I' (Fin.mono T h rfl rfl rfl rfl)
  |rt d=>exact h
  |bk e=>exact h
  |ct e=>exact h
theorem dc:PuS K ns fr lf fl uv nxS fl:=fun L0 H0 O env σ H E I h=>h O σ H .refl I
def gives:List Nat→List Bool→List Bool
 |[],fl=>fl
 |i::r,fl=>gives r (fl.set i false)
theorem Iv.gives:∀(is:List Nat) {fl:List Bool} {O:List (Option Addr)},Iv K ns fl L0 H0 O env σ H→∃O',Step O H O' H∧Iv K ns (gives is fl) L0 H0 O' env σ H
 |[],_,O,I=>⟨O, .refl,I⟩
 |i::r,_,O,I=>by
  obtain⟨O',T,I'⟩:=Iv.gives r (I.give i)
  exact⟨O',(Step.give i).trans T,I'⟩
theorem vg(is:List Nat){t:TS}{F:SF}(a:PuS K ns fr lf (gives is fl) t F fl'):PuS K ns fr lf fl t F fl':=by
 intro L0 H0 O env σ H E I h
 obtain⟨O2,T2,I2⟩:=I.gives is
 exact a L0 H0 O2 env σ H E I2 (Fin.mono T2 h rfl rfl rfl rfl)
theorem cJ{t:TE}{f:VF}(h:PuE K ns t f):PuS K ns .no lf fl (tN t) (bd f) fl':=by
 intro L0 H0 O env σ H E I k
 unfold bd at k
 cases e:f env with
 |none=>rw[e] at k;exact k.elim
 |some d=>
  rw[e] at k
  exact h _ env σ H _ d I.weak e fun v H' S r=>k v H' (I.sm.trans S) (r.mono (fun _ q=>nw2 I.sm q) .refl)
theorem pE{t:TE}{f:VF}(h:PuF K ns t f):PuS K ns .yes lf fl (tN t) (bd f) fl':=by
 intro L0 H0 O env σ H E I k
 unfold bd at k
 cases e:f env with
 |none=>rw[e] at k;exact k.elim
 |some d=>
  rw[e] at k
  exact h _ env σ H _ d I.weak e fun p vs ds H' ed S hp hl r=>k _ H' (I.sm.trans S) ⟨p,vs,ds,rfl,ed,gX I.sm hp,hl,r.mono (fun _ q=>⟨nw2 I.sm q.1,q.2⟩) .refl⟩
def bp(i:Nat):SF:=fun env=>(e8 i env).bind fun xs=>some (.rt (.lst xs))
theorem mU(i:Nat)(hi:fl[i]? =some true):PuS K ns .yes lf fl (tN (hV i)) (bp i) fl':=by
 intro L0 H0 O env σ H E I k
 obtain⟨p,ho⟩:=I.owned hi
 obtain⟨h0,hs,o,d,e,hp,r⟩:=I.ow i p ho
 unfold bp e8 at k
 rw[e] at k
 rcases r.case with⟨vs,ds,rfl,rfl,r⟩|⟨kvs,ds,rfl,rfl,r⟩|⟨kvs,ds,rfl,rfl,r⟩
 rotate_left
 · exact k.elim
 · exact k.elim
 exact⟨_,hs,k _ H I.sm ⟨p,vs,ds,rfl,rfl,h0,hp,r.mono (fun a q=>⟨q.1,fun z=>q.2 (z▸List.mem_of_getElem? ho)⟩) .refl⟩⟩
theorem zi{t:TE}{f:VF}(h:PuE K ns t f):PuS K ns fr lf fl (iZ t) (aZ f) fl:=by
 intro L0 H0 O env σ H E I k
 unfold aZ at k
 cases e:f env with
 |none=>rw[e] at k;exact k.elim
 |some d=>
  rw[e] at k
  exact h _ env σ H _ d I.weak e fun v H' S r=>k O σ H' (.same S) (I.same S)
theorem hZ{c:TT}{t u:TS}{fc:BF}{F G:SF}(h:PuT K ns c fc)(a:PuS K ns fr lf fl t F fl')(b:PuS K ns fr lf fl u G fl'):PuS K ns fr lf fl (yu c t u) (ifS fc F G) fl':=by
 intro L0 H0 O env σ H E I k
 unfold ifS at k
 cases e:fc env with
 |none=>rw[e] at k;exact k.elim
 |some x=>
  rw[e] at k
  refine h _ env σ H _ x I.weak e fun H' S=> ?_
  cases x with
  |true=>
   rw[if_pos rfl]
   exact a _ _ _ _ _ _ _ (I.same S) (Fin.mono (.same S) k rfl rfl rfl rfl)
  |false=>
   rw[if_neg Bool.false_ne_true]
   exact b _ _ _ _ _ _ _ (I.same S) (Fin.mono (.same S) k rfl rfl rfl rfl)
theorem cx(i:Nat){t:TE}{f:VF}(h:PuE K ns t f):PuS K ns fr lf fl (qq t (iq i)) (a7 i (mk fl f)) (fl.set i false):=by
 intro L0 H0 O env σ H E I k
 unfold a7 mk at k
 cases e:f (fj fl env) with
 |none=>rw[e] at k;exact k.elim
 |some d=>
  rw[e] at k
  refine h _ (fj fl env) σ H _ d I.strict e fun v H' S r=> ?_
  exact k _ _ H' ((Step.same S).trans (.give i)) ((I.same S).store (r.mono (fun _ q=>I.nwm q) .refl))
theorem jD(i:Nat){t:TE}{f:VF}(h:PuF K ns t f)(hi:i<fl.length):PuS K ns fr lf fl (qq t (iq i)) (a7 i (mk fl f)) (fl.set i true):=by
 intro L0 H0 O env σ H E I k
 unfold a7 mk at k
 cases e:f (fj fl env) with
 |none=>rw[e] at k;exact k.elim
 |some d=>
  rw[e] at k
  refine h _ (fj fl env) σ H _ d I.strict e fun p vs ds H' ed S hp hl r=> ?_
  subst ed
  exact k _ _ H' (.take S hp) (I.take S hp hl r (by rw[←I.fl,List.length_map] at hi;exact hi))
theorem mV(I:Iv K ns fl L0 H0 O env σ H){i:Nat}(hi:fl[i]? =some true):e8 i env=none∨∃p vs ds,O[i]? =some (some p)∧σ[i]? =some (some (.ref p))∧e8 i env=some ds∧H p=some (.lst vs)∧Rds K ns (Lm L0 H0 O) H vs ds:=by
 obtain⟨p,ho⟩:=I.owned hi
 obtain⟨h0,hs,o,d,e,hp,r⟩:=I.ow i p ho
 rcases r.case with⟨vs,ds,rfl,rfl,r⟩|⟨kvs,ds,rfl,rfl,r⟩|⟨kvs,ds,rfl,rfl,r⟩
 · exact .inr ⟨p,vs,ds,ho,hs,by unfold e8;rw[e];rfl,hp,r⟩
 · exact .inl (by unfold e8;rw[e];rfl)
 · exact .inl (by unfold e8;rw[e];rfl)
theorem Fin.no{E:Ends}{A:Prop}{o:Option Out}(h:Fin K ns fr lf fl L0 H0 O H E o)(e:o=none):A:=by subst e;exact h.elim
theorem wW{α β:Type}{o:Option α}:(o.bind fun _=>(none:Option β))=none:=by cases o<;>rfl
theorem mW(i:Nat){t:TE}{f:VF}(h:PuE K ns t f)(hi:fl[i]? =some true):PuS K ns fr lf fl (iZ (tBM K "list" je (hV i) (gv t kc))) (bq i (mk fl f)) fl:=by
 intro L0 H0 O env σ H E I k
 rcases mV I hi with hn|⟨p,vs,ds,ho,hs,hd,hp,r⟩
 · exact Fin.no k (by unfold bq;rw[hn];exact wW)
 unfold bq mk at k
 cases e:f (fj fl env) with
 |none=>rw[e] at k;exact k.elim
 |some d=>
  rw[e] at k
  have k':Fin K ns fr lf fl L0 H0 O H E ((e8 i env).bind fun xs=>if xs.length<1000000 then some (.nx (env.set i (some (.lst (xs++[d]))))) else none):=k
  rw[hd] at k'
  have k2:Fin K ns fr lf fl L0 H0 O H E (if ds.length<1000000 then some (.nx (env.set i (some (.lst (ds++[d]))))) else none):=k'
  by_cases hl:ds.length<1000000
  · rw[if_pos hl] at k2
    refine⟨_,hs, .inl ⟨rfl,_,SqL.of hp⟩,h _ (fj fl env) σ H _ d I.strict e fun v H' S rv=>⟨p,vs,v,rfl,rfl,S _ _ hp,by rw[r.len];exact Nat.lt_trans hl (by decide), ?_⟩⟩
    have I':=I.same S
    exact k2 _ _ _ ((Step.same S).trans (.alter (List.mem_of_getElem? ho))) (I'.alter ho ((r.same S).append (.cons (rv.mono (fun _ q=>I.nwm q) .refl) .nil)))
  · rw[if_neg hl] at k2
    exact k2.elim
theorem zm(i:Nat){t:TE}{f:VF}(h:PuE K ns t f)(hi:fl[i]? =some true):PuS K ns fr lf fl (iZ (tBM K "list" je (hV i) (gv t kc))) (bE i f) fl:=by
 intro L0 H0 O env σ H E I k
 rcases mV I hi with hn|⟨p,vs,ds,ho,hs,hd,hp,r⟩
 · exact Fin.no k (by unfold bE;rw[hn];cases f env with|none=>rfl|some d=>exact ite_self none)
 unfold bE at k
 cases e:f env with
 |none=>rw[e] at k;exact k.elim
 |some d=>
  rw[e] at k
  have k':Fin K ns fr lf fl L0 H0 O H E (if d.flat=true then(e8 i env).bind fun xs=>if xs.length<1000000 then some (.nx (env.set i (some (.lst (xs++[d]))))) else none else none):=k
  by_cases hfl:d.flat=true
  · rw[if_pos hfl,hd] at k'
    have k2:Fin K ns fr lf fl L0 H0 O H E (if ds.length<1000000 then some (.nx (env.set i (some (.lst (ds++[d]))))) else none):=k'
    by_cases hl:ds.length<1000000
    · rw[if_pos hl] at k2
      refine⟨_,hs, .inl ⟨rfl,_,SqL.of hp⟩,h _ env σ H _ d I.weak e fun v H' S rv=>⟨p,vs,v,rfl,rfl,S _ _ hp,by rw[r.len];exact Nat.lt_trans hl (by decide), ?_⟩⟩
      have I':=I.same S
      exact k2 _ _ _ ((Step.same S).trans (.alter (List.mem_of_getElem? ho))) (I'.alter ho ((r.same S).append (.cons (rv.flat hfl) .nil)))
    · rw[if_neg hl] at k2
      exact k2.elim
  · rw[if_neg hfl] at k'
    exact k'.elim
theorem yi(i:Nat){t:TE}{f:VF}(h:PuE K ns t f)(hi:fl[i]? =some true):PuS K ns fr lf fl (iZ (tBM K "list" ss (hV i) (gv t kc))) (bA i (mk fl f)) fl:=by
 intro L0 H0 O env σ H E I k
 rcases mV I hi with hn|⟨p,vs,ds,ho,hs,hd,hp,r⟩
 · exact Fin.no k (by unfold bA;rw[hn];cases mk fl f env with|none=>rfl|some d=>cases d<;>rfl)
 unfold bA mk at k
 cases e:f (fj fl env) with
 |none=>rw[e] at k;exact k.elim
 |some d=>
  rw[e] at k
  cases d<;>first|(exact k.elim)|skip
  rename_i ys
  have k':Fin K ns fr lf fl L0 H0 O H E ((e8 i env).bind fun xs=>if xs.length+ys.length<1000000 then some (.nx (env.set i (some (.lst (xs++ys))))) else none):=k
  rw[hd] at k'
  have k2:Fin K ns fr lf fl L0 H0 O H E (if ds.length+ys.length<1000000 then some (.nx (env.set i (some (.lst (ds++ys))))) else none):=k'
  by_cases hl:ds.length+ys.length<1000000
  · rw[if_pos hl] at k2
    refine⟨_,hs, .inl ⟨rfl,_,SqL.of hp⟩,h _ (fj fl env) σ H _ _ I.strict e fun v H' S rv=> ?_⟩
    cases rv with
    |lst l eb rb=>
     refine⟨p,_,vs,_,rfl,rfl,S _ _ hp,eb,by rw[r.len,rb.len];exact Nat.le_of_lt (Nat.lt_trans hl (by decide)), ?_⟩
     have I':=I.same S
     exact k2 _ _ _ ((Step.same S).trans (.alter (List.mem_of_getElem? ho))) (I'.alter ho ((r.same S).append (rb.mono (fun _ q=>I.nwm q) .refl)))
  · rw[if_neg hl] at k2
    exact k2.elim
theorem AA(i:Nat)(hi:fl[i]? =some true):PuS K ns fr lf fl (iZ (uH K "list" jy (hV i))) (bF i) fl:=by
 intro L0 H0 O env σ H E I k
 rcases mV I hi with hn|⟨p,vs,ds,ho,hs,hd,hp,r⟩
 · exact Fin.no k (by unfold bF;rw[hn];rfl)
 unfold bF at k
 rw[hd] at k
 exact⟨_,hs, .inl ⟨rfl,_,SqL.of hp⟩,p,vs,rfl,rfl,hp,k _ _ _ (.alter (List.mem_of_getElem? ho)) (I.alter ho r.reverse)⟩
theorem jE{α:Type}:∀{l:List α} {i:Nat} {x:α},l[i]? =some x→l.set i x=l
 |[],_,_,h=>by simp at h
 |_::_,0,_,h=>by cases h;rfl
 |_::l,i+1,_,h=>congrArg _ (jE (l:=l) (i:=i) h)
theorem gb(i:Nat)(hi:fl[i]? =some false):PuG K ns fl (iq i) (nmG i):=by
 intro L0 H0 O env e σ H x d Q I r hg k
 cases hg
 have ho:=I.free hi
 have:=I.store (i:=i) r
 have e1:fl.set i false=fl:=jE hi
 have e2:O.set i none=O:=jE ho
 rw[e1,e2] at this
 exact k _ this
theorem gP{wi:TI}{g:TG}{t:TS}{fi:AF}{G:GF}{b:SF}{lf0:List Bool}(hi:PuI K ns wi fi)(hg:PuG K ns fl g G)(hb:PuS K ns fr fl fl t b fl):PuS K ns fr lf0 fl (yx wi g t) (bn (mk fl fi) G b) fl:=by
 intro L0 H0 O env σ H E I k
 unfold bn mk at k
 cases e:fi (fj fl env) with
 |none=>rw[e] at k;exact k.elim
 |some ds=>
  rw[e] at k
  have k1:Fin K ns fr lf0 fl L0 H0 O H E (fk G b ds env):=k
  refine hi _ (fj fl env) σ H _ ds I.strict e fun J H1 S1 it=> ?_
  refine⟨fun i m σ2 H2=>m=ds.length-i∧i≤ds.length∧∃O2 e2,Step O H1 O2 H2∧Iv K ns fl L0 H0 O2 e2 σ2 H2∧Fin K ns fr lf0 fl L0 H0 O2 H2 E (fk G b (ds.drop i) e2),⟨_,rfl,Nat.zero_le _,O,env, .refl,I.same S1,by rw[List.drop_zero];exact Fin.mono (.same S1) k1 rfl rfl rfl rfl⟩, ?_⟩
  rintro i m σ2 H2 ⟨rfl,hle,O2,e2,T2,I2,k2⟩
  have lm:∀a o,H1 a=some o→Nw (Lm L0 H0 O) H a→Lm L0 H0 O2 a∧some a∉O:=fun a o ea hl=>by
   have:=I.nwm hl
   refine⟨⟨this.1,fun q=> ?_⟩,this.2⟩
   rcases T2.ow a q with q|q
   · exact this.2 q
   · rw[ea] at q;cases q
  have kp:KeepL (fun a=>Lm L0 H0 O2 a∧some a∉O) H1 H2:=fun a o ea hm=>by
   refine T2.kp a o ea fun hq=> ?_
   obtain⟨vs,hv,hmu⟩:=(I.same S1).own_in hq
   rw[ea] at hv
   cases hv
   exact(hm hmu).2 hq
  obtain⟨go,stop⟩:=it (fun a=>Lm L0 H0 O2 a∧some a∉O) i H2 lm kp
  by_cases hlt:i<ds.length
  · obtain⟨gg,yl⟩:=go ds[i] (List.getElem?_eq_getElem hlt)
    rw[List.drop_eq_getElem_cons hlt,fk] at k2
    refine .inr ⟨gg,fun σ' H'=>∃m',m'<ds.length-i∧m'=ds.length-(i+1)∧i+1≤ds.length∧∃O2 e2,Step O H1 O2 H'∧Iv K ns fl L0 H0 O2 e2 σ' H'∧Fin K ns fr lf0 fl L0 H0 O2 H' E (fk G b (ds.drop (i+1)) e2),fun σ' H' h=>h,fun x H3 y=> ?_⟩
    obtain⟨S3,rx⟩:=yl x H3 y
    have I3:=I2.same S3
    cases eg:G ds[i] e2 with
    |none=>rw[eg] at k2;exact k2.elim
    |some e3=>
     rw[eg] at k2
     refine hg L0 H0 O2 e2 e3 σ2 H3 x ds[i] _ I3 (rx.mono (fun _ q=>q.elim (fun z=>z.1) I2.new_m) .refl) eg fun σ3 I4=> ?_
     refine hb L0 H0 O2 e3 σ3 H3 _ I4 ?_
     have T3:Step O2 H2 O2 H3:= .same S3
     have k3:Fin K ns fr lf0 fl L0 H0 O2 H2 E ((b e3).bind fun
      | .nx e=>fk G b (ds.drop (i+1)) e
      | .ct e=>fk G b (ds.drop (i+1)) e
      | .bk e=>some (.nx e)
      | .rt d=>some (.rt d)):=k2
     cases ebd:b e3 with
     |none=>rw[ebd] at k3;exact k3.elim
     |some o=>
      rw[ebd] at k3
      cases o with
      |nx e4=>exact fun O5 σ5 H5 T5 I5=>⟨ds.length-(i+1),by omega,rfl,hlt,O5,e4,T2.trans (T3.trans T5),I5,Fin.mono (T3.trans T5) k3 rfl rfl rfl rfl⟩
      |ct e4=>exact fun O5 σ5 H5 T5 I5=>⟨ds.length-(i+1),by omega,rfl,hlt,O5,e4,T2.trans (T3.trans T5),I5,Fin.mono (T3.trans T5) k3 rfl rfl rfl rfl⟩
      |bk e4=>exact fun O5 σ5 H5 T5 I5=>k3 O5 σ5 H5 (T3.trans T5) I5
      |rt d=>exact k3
  · have hi':ds.length=i:=by omega
    refine .inl ⟨stop hi', ?_⟩
    rw[List.drop_of_length_le (by omega)] at k2
    exact k2 O2 σ2 H2 .refl I2
end
end PD
namespace PD
open PySem L2
section
variable{K:W.Frag}{ns:List Str}{fr:Fr}{lf fl fl' fl'':List Bool}{L0:Addr→Prop}{H0 H H' H'':Hp}{O O' O'':List (Option Addr)}{env:Env}{σ:St}
def wX(K:W.Frag)(ns:List Str)(fl:List Bool)(g:TGs)(is:List Nat):Prop:=∀(L0:Addr→Prop) (H0:Hp) (O:List (Option Addr)) (env e:Env) (σ:St) (H:Hp) (xs:List V) (ds:List D) (Q:St→Hp→Prop),Iv K ns fl L0 H0 O env σ H→Rds K ns (Lm L0 H0 O) H xs ds→aX is ds env=some e→(∀σ',Iv K ns fl L0 H0 O e σ' H→Q σ' H)→g xs σ H Q
theorem pF:wX K ns fl yw []:=by
 intro L0 H0 O env e σ H xs ds Q I r hg k
 cases r with
 |nil=>cases hg;exact⟨rfl,k _ I⟩
 |cons h t=>cases hg
theorem iM{i:Nat}{is:List Nat}{g:TGs}(hi:fl[i]? =some false)(h:wX K ns fl g is):wX K ns fl (uw (iq i) g) (i::is):=by
 intro L0 H0 O env e σ H xs ds Q I r hg k
 cases r with
 |nil=>cases hg
 |cons rv rt=>
  refine⟨_,_,rfl, ?_⟩
  exact gb i hi L0 H0 O env _ σ H _ _ _ I rv rfl fun σ' I'=>h L0 H0 O _ e σ' H _ _ Q I' rt hg k
theorem lh:∀{is:List Nat} {ds:List D} {env e:Env},aX is ds env=some e→ds.length=is.length
 |[],[],_,_,_=>rfl
 |_::is,_::ds,_,_,h=>congrArg Nat.succ (lh (is:=is) (ds:=ds) h)
 |[],_::_,_,_,h=>by cases h
 |_::_,[],_,_,h=>by cases h
theorem sI{n:Nat}{is:List Nat}{g:TGs}(h:wX K ns fl g is)(hn:is.length=n:=by rfl):PuG K ns fl (wn K n g) (bB is):=by
 intro L0 H0 O env e σ H x d Q I r hg k
 cases r<;>first|(cases hg;done)|skip
 · rename_i e1 r
   exact⟨_,_,rfl,SqT.of e1,by rw[r.len,lh hg,hn],h L0 H0 O env e σ H _ _ Q I r hg k⟩
 · rename_i e1 r
   exact⟨_,_,rfl,SqT.kt e1,by rw[r.len,lh hg,hn],h L0 H0 O env e σ H _ _ Q I r hg k⟩
theorem wY{c:TT}{t:TS}{fc:BF}{b:SF}{lf0:List Bool}(hc:PuT K ns c fc)(hb:PuS K ns fr fl fl t b fl):PuS K ns fr lf0 fl (rh c t) (whS fc b) fl:=by
 intro L0 H0 O env σ H E I k
 unfold whS at k
 refine⟨fun m σ2 H2=>∃O2 e2,Step O H O2 H2∧Iv K ns fl L0 H0 O2 e2 σ2 H2∧Fin K ns fr lf0 fl L0 H0 O2 H2 E (whN fc b m e2),⟨1000000,O,env, .refl,I,k⟩, ?_⟩
 rintro m σ2 H2 ⟨O2,e2,T2,I2,k2⟩
 cases m with
 |zero=>exact k2.elim
 |succ m=>
  rw[whN] at k2
  cases ec:fc e2 with
  |none=>rw[ec] at k2;exact k2.elim
  |some x=>
   rw[ec] at k2
   refine hc _ e2 σ2 H2 _ x I2.weak ec fun H3 S3=> ?_
   cases x with
   |false=>
    rw[if_neg Bool.false_ne_true]
    exact k2 O2 σ2 H3 (.same S3) (I2.same S3)
   |true=>
    rw[if_pos rfl]
    have T3:Step O2 H2 O2 H3:= .same S3
    refine⟨fun σ' H'=>∃m',m'<m+1∧∃O2 e2,Step O H O2 H'∧Iv K ns fl L0 H0 O2 e2 σ' H'∧Fin K ns fr lf0 fl L0 H0 O2 H' E (whN fc b m' e2),fun σ' H' h=>h, ?_⟩
    refine hb L0 H0 O2 e2 σ2 H3 _ (I2.same S3) ?_
    have k3:Fin K ns fr lf0 fl L0 H0 O2 H2 E ((b e2).bind fun
     | .nx e=>whN fc b m e
     | .ct e=>whN fc b m e
     | .bk e=>some (.nx e)
     | .rt d=>some (.rt d)):=k2
    cases ebd:b e2 with
    |none=>rw[ebd] at k3;exact k3.elim
    |some o=>
     rw[ebd] at k3
     cases o with
     |nx e4=>exact fun O5 σ5 H5 T5 I5=>⟨m,by omega,O5,e4,T2.trans (T3.trans T5),I5,Fin.mono (T3.trans T5) k3 rfl rfl rfl rfl⟩
     |ct e4=>exact fun O5 σ5 H5 T5 I5=>⟨m,by omega,O5,e4,T2.trans (T3.trans T5),I5,Fin.mono (T3.trans T5) k3 rfl rfl rfl rfl⟩
     |bk e4=>exact fun O5 σ5 H5 T5 I5=>k3 O5 σ5 H5 (T3.trans T5) I5
     |rt d=>exact k3
end
theorem yj{α:Type}(a:α):∃x,x=a:=⟨a,rfl⟩
noncomputable def aa{α:Type}(a:α):α:=Classical.choose (yj a)
theorem az{α:Type}(a:α):aa a=a:=Classical.choose_spec (yj a)
def ix(n:Nat)(ds:List D):Env:=ds.map some++List.replicate (n-ds.length) none
def ba(n:Nat)(b:SF)(ds:List D):Option D:=(b (ix n ds)).bind fun
 | .rt d=>some d
 | .nx _=>some .non
 |_=>none
def bg(n:Nat)(b:SF)(ds:List D):Option D:=(b (ix n ds)).bind fun
 | .rt d=>some d
 |_=>none
def spP(K:W.Frag)(ns:List Str)(fr:Fr)(n:Nat)(F:List D→Option D):Sp:=fun vs H Q _=>∃(L:Addr→Prop) (ds:List D) (d:D),ds.length=n∧Rds K ns L H vs ds∧F ds=some d∧∀v H',Same H H'→Res K ns fr L H H' v d→Q v H'
section
variable{K:W.Frag}{ns:List Str}{fr:Fr}{fl':List Bool}
theorem ck{n:Nat}{F:List D→Option D}{vs:List V}{H:Hp}{Q:VK}{E:XK}(h:spP K ns fr n F vs H Q E):vs.length=n:=by
 obtain⟨L,ds,d,hl,r,_⟩:=h
 rw[r.len,hl]
theorem mX{L:Addr→Prop}{H:Hp}{vs:List V}{ds:List D}{n:Nat}{N:List Str}(r:Rds K ns L H vs ds)(hN:N.length=n)(hn:ds.length≤n):Iv K ns (List.replicate n false) L H (List.replicate n none) (ix n ds) (start N vs) H:=by
 have nm:∀a:Addr,some a∉List.replicate n (none:Option Addr):=fun a h=>by
  have:=List.eq_of_mem_replicate h
  cases this
 refine⟨Same.refl _,by simp,by unfold L2.start;simp[r.len];omega,by unfold ix;simp;omega,fun i d e _=> ?_,fun i p h=> ?_,fun i j p h=> ?_⟩
 · unfold ix at e
   have hi:i<ds.length:=by
    by_cases hi:i<ds.length
    · exact hi
    · rw[List.getElem?_append_right (by simp;omega)] at e
      have:=List.eq_of_mem_replicate (List.mem_of_getElem? e)
      cases this
   rw[List.getElem?_append_left (by simpa using hi),List.getElem?_map] at e
   obtain⟨d',hd,e⟩:=Option.map_eq_some_iff.mp e
   cases e
   obtain⟨v,hv,rv⟩:=r.get hd
   refine⟨v, ?_,rv.mono (fun a q=>⟨.inl q,nm a⟩) .refl⟩
   unfold L2.start
   rw[List.getElem?_append_left (by simp[r.len];exact hi),List.getElem?_map,hv]
   rfl
 · exact absurd (List.mem_of_getElem? h) (nm p)
 · exact absurd (List.mem_of_getElem? h) (nm p)
theorem dE{t:TS}{b:SF}{n m:Nat}{N:List Str}{vs:List V}{H:Hp}{Q:VK}{E:XK}(h:PuS K ns .no [] (List.replicate n false) t b fl')(hN:N.length=n)(hm:m≤n)(s:spP K ns .no m (ba n b) vs H Q E):t {nx:=fun _ H'=>Q .non H',rt:=Q} (start N vs) H:=by
 obtain⟨L,ds,d,hl,r,hf,k⟩:=s
 refine h L H _ _ _ _ _ (mX r hN (by omega)) ?_
 unfold ba at hf
 cases e:b (ix n ds) with
 |none=>rw[e] at hf;cases hf
 |some o=>
  rw[e] at hf
  cases o with
  |nx e2=>cases hf;exact fun O' σ' H' _ I'=>k _ _ I'.sm .non
  |rt d2=>cases hf;exact k
  |bk e2=>cases hf
  |ct e2=>cases hf
theorem h6{t:TS}{b:SF}{n m:Nat}{N:List Str}{vs:List V}{H:Hp}{Q:VK}{E:XK}(h:PuS K ns .yes [] (List.replicate n false) t b fl')(hN:N.length=n)(hm:m≤n)(s:spP K ns .yes m (bg n b) vs H Q E):t {nx:=fun _ H'=>Q .non H',rt:=Q} (start N vs) H:=by
 obtain⟨L,ds,d,hl,r,hf,k⟩:=s
 refine h L H _ _ _ _ _ (mX r hN (by omega)) ?_
 unfold bg at hf
 cases e:b (ix n ds) with
 |none=>rw[e] at hf;cases hf
 |some o=>
  rw[e] at hf
  cases o with
  |rt d2=>cases hf;exact k
  |nx e2=>cases hf
  |bk e2=>cases hf
  |ct e2=>cases hf
theorem cI{n:Nat}{F:List D→Option D}{t:TA}{f:AF}{E:XK}(h:PuA K ns n t f):PuE K ns (n5 (spP K ns .no n F) [] E t) (ah F f):=by
 intro L env σ H Q d he hf k
 obtain⟨a,ea,hf⟩:=bnd hf
 refine h L env σ H _ a he ea fun xs H1 hl S1 rx=>⟨Nw L H,a,d,hl,by rw[List.append_nil];exact rx,hf,fun v H2 S2 r=>k v H2 (S1.trans S2) (Rd.mono (fun _ q=>nw2 S1 q) .refl (show Rd K ns (Nw (Nw L H) H1) H2 v d from r))⟩
theorem gZ{n:Nat}{F:List D→Option D}{t:TA}{f:AF}{E:XK}(h:PuA K ns n t f):PuF K ns (n5 (spP K ns .yes n F) [] E t) (ah F f):=by
 intro L env σ H Q d he hf k
 obtain⟨a,ea,hf⟩:=bnd hf
 refine h L env σ H _ a he ea fun xs H1 hl S1 rx=>⟨Nw L H,a,d,hl,by rw[List.append_nil];exact rx,hf,fun v H2 S2 r=> ?_⟩
 obtain⟨p,us,ds,rfl,ed,hp,hl2,rr⟩:=(show ∃p us ds,v= .ref p∧d= .lst ds∧H1 p=none∧H2 p=some (.lst us)∧Rds K ns (fun a=>Nw (Nw L H) H1 a∧a≠p) H2 us ds from r)
 exact k p us ds H2 ed (S1.trans S2) (gX S1 hp) hl2 (rr.mono (fun _ q=>⟨nw2 S1 q.1,q.2⟩) .refl)
theorem zn{F:List D→Option D}{vs:List V}{H:Hp}{Q:VK}{E:XK}{a:Addr}{xs:List Int}(e:vs=[.ref a])(hs:SqL K H a (xs.map V.int))(hF:∀d,(d= .lst (xs.map D.int)∨d= .fz (xs.map D.int))→F [d]=some (.bl true))(k:∀H',Q (.bl true) H'):spP K ns .no 1 F vs H Q E:=by
 have rd:Rds K ns (fun _=>True) H (xs.map V.int) (xs.map D.int):=by
  clear hs hF
  induction xs with
  |nil=>exact .nil
  |cons x r ih=>exact .cons (.int x) ih
 subst e
 have fin:∀v H',Same H H'→Res K ns .no (fun _=>True) H H' v (.bl true)→Q v H':=fun v H' S r=>by
  have r':Rd K ns (Nw (fun _=>True) H) H' v (.bl true):=r
  cases r'
  exact k H'
 rcases hs with(h|h)|h
 · exact⟨fun _=>True,[.lst (xs.map D.int)],_,rfl, .cons (.lst trivial h rd) .nil,hF _ (.inl rfl),fin⟩
 · exact⟨fun _=>True,[.fz (xs.map D.int)],_,rfl, .cons (.fz (.inl h) rd) .nil,hF _ (.inr rfl),fin⟩
 · exact⟨fun _=>True,[.fz (xs.map D.int)],_,rfl, .cons (.fz (.inr h) rd) .nil,hF _ (.inr rfl),fin⟩
end
end PD
namespace PD
open PySem L2
theorem gc{K:W.Frag}{A B:String}{b:Bool}(hn:(Value.type A==Value.type B)=false:=by decide+kernel)(h1:W.kitMeta B=true:=by decide+kernel)(h2:((fastBuiltinMro A).map (·.contains (Value.type B)))=some b:=by decide+kernel):W.kitOne K (.type A) (.type B)=some b:=by
 show (if(Value.type A==Value.type B)=true then some true else if W.kitMeta B=true then W.subIn K (.type A) (.type B) else none)=some b
 rw[hn,if_neg Bool.false_ne_true,if_pos h1]
 exact h2
def pG:List D→Option D
 |[.kt _]=>none
 |[.fz _]=>none
 |[.ob _ _]=>none
 |[.dk _ _]=>none
 |[.dt _ _]=>none
 |[.lst _]=>some (.bl true)
 |[.tup _]=>some (.bl true)
 |[_]=>some (.bl false)
 |_=>none
section
variable{K:W.Frag}{ns:List Str}
theorem AB{L:Addr→Prop}{H:Hp}{x:V}{d:D}(r:Rd K ns L H x d)(h1:∀xs,d≠ .kt xs)(h2:∀xs,d≠ .fz xs)(h3:∀c fs,d≠ .ob c fs):TyOf K H x (.type d.ty):=by
 cases r with
 |non=>exact .non
 |bl b=>exact .bl b
 |int i=>exact .int i
 |str x=>exact .str x
 |tup e r=>exact .tup e
 |kt e r=>exact absurd rfl (h1 _)
 |lst l e r=>exact .lst e
 |fz e r=>exact absurd rfl (h2 _)
 |ob l e k r=>exact absurd rfl (h3 _ _)
 |dk l e r=>exact .dK e
 |dt l e r=>exact .dT e
def okT(T:String):Bool:=T=="int"||T=="bool"||T=="str"||T=="list"||T=="tuple"
theorem wZ{d:D}(h1:∀xs,d≠ .kt xs)(h3:∀c fs,d≠ .ob c fs):W.kitOne K (.type d.ty) (.type "int")=some (gu d.ty "int"):=by
 cases d<;>first|exact absurd rfl (h1 _)|exact absurd rfl (h3 _ _)|rfl|exact gc
theorem vh{d:D}(h1:∀xs,d≠ .kt xs)(h3:∀c fs,d≠ .ob c fs):W.kitOne K (.type d.ty) (.type "bool")=some (gu d.ty "bool"):=by
 cases d<;>first|exact absurd rfl (h1 _)|exact absurd rfl (h3 _ _)|rfl|exact gc
theorem w4{d:D}(h1:∀xs,d≠ .kt xs)(h3:∀c fs,d≠ .ob c fs):W.kitOne K (.type d.ty) (.type "str")=some (gu d.ty "str"):=by
 cases d<;>first|exact absurd rfl (h1 _)|exact absurd rfl (h3 _ _)|rfl|exact gc
theorem vi{d:D}(h1:∀xs,d≠ .kt xs)(h3:∀c fs,d≠ .ob c fs):W.kitOne K (.type d.ty) (.type "list")=some (gu d.ty "list"):=by
 cases d<;>first|exact absurd rfl (h1 _)|exact absurd rfl (h3 _ _)|rfl|exact gc
theorem ua{d:D}(h1:∀xs,d≠ .kt xs)(h3:∀c fs,d≠ .ob c fs):W.kitOne K (.type d.ty) (.type "tuple")=some (gu d.ty "tuple"):=by
 cases d<;>first|exact absurd rfl (h1 _)|exact absurd rfl (h3 _ _)|rfl|exact gc
theorem oy{T:String}(h:okT T=true){d:D}(h1:∀xs,d≠ .kt xs)(h3:∀c fs,d≠ .ob c fs):W.kitOne K (.type d.ty) (.type T)=some (gu d.ty T):=by
 unfold okT at h
 simp only[Bool.or_eq_true,beq_iff_eq] at h
 rcases h with(((h|h)|h)|h)|h<;>subst h
 · exact wZ h1 h3
 · exact vh h1 h3
 · exact w4 h1 h3
 · exact vi h1 h3
 · exact ua h1 h3
theorem AC{T:String}(h:okT T=true){C:Addr}{ms fs:List Str}(p:PKd K ns C ms fs):W.kitOne K (.ref C) (.type T)=some false:=by
 unfold okT at h
 simp only[Bool.or_eq_true,beq_iff_eq] at h
 rcases h with(((h|h)|h)|h)|h<;>subst h<;>exact p.notT _
theorem jk{t:TE}{f:VF}(T:String)(hT:okT T=true)(h:PuE K ns t f):PuE K ns (tCB (A0 K) (gv t (gv (tC (.ty T)) kc))) (ah (isT T) (ae f ak)):=by
 intro L env σ H Q d he hf k
 obtain⟨as,eas,hf⟩:=bnd hf
 obtain⟨a,ea,e2⟩:=bnd eas
 cases e2
 clear eas
 refine h L env σ H _ a he ea fun x H1 S1 r=> ?_
 cases r with
 | @ob a dx gs c fs l e kk r=>
   cases hf
   have e0:gu (D.ob c fs).ty T=false:=by
    unfold okT at hT
    simp only[Bool.or_eq_true,beq_iff_eq] at hT
    show gu "object" T=false
    rcases hT with(((h|h)|h)|h)|h<;>subst h<;>decide
   rw[e0] at k
   exact⟨_,_,_,_,rfl,PKd.ty kk e,AC hT kk,k _ _ S1 (.bl _)⟩
 |kt e r=>cases hf
 |fz e r=>cases hf
 |dk l e r=>cases hf
 |dt l e r=>cases hf
 |non=>cases hf;exact⟨_,_,_,_,rfl, .non,oy hT (d:= .non) (fun _ z=>by cases z) (fun _ _ z=>by cases z),k _ _ S1 (.bl _)⟩
 |bl b=>cases hf;exact⟨_,_,_,_,rfl, .bl b,oy hT (d:= .bl b) (fun _ z=>by cases z) (fun _ _ z=>by cases z),k _ _ S1 (.bl _)⟩
 |int b=>cases hf;exact⟨_,_,_,_,rfl, .int b,oy hT (d:= .int b) (fun _ z=>by cases z) (fun _ _ z=>by cases z),k _ _ S1 (.bl _)⟩
 |str b=>cases hf;exact⟨_,_,_,_,rfl, .str b,oy hT (d:= .str b) (fun _ z=>by cases z) (fun _ _ z=>by cases z),k _ _ S1 (.bl _)⟩
 | @tup a vs ds e r=>cases hf;exact⟨_,_,_,_,rfl, .tup e,oy hT (d:= .tup ds) (fun _ z=>by cases z) (fun _ _ z=>by cases z),k _ _ S1 (.bl _)⟩
 | @lst a vs ds l e r=>cases hf;exact⟨_,_,_,_,rfl, .lst e,oy hT (d:= .lst ds) (fun _ z=>by cases z) (fun _ _ z=>by cases z),k _ _ S1 (.bl _)⟩
theorem zo:W.kitAny K (.type "list") (["list","tuple"].map .type)=some true:=rfl
theorem zp:W.kitAny K (.type "tuple") (["list","tuple"].map .type)=some true:=by
 have e:W.kitOne K (.type "tuple") (.type "list")=some false:=gc
 show (match W.kitOne K (.type "tuple") (.type "list") with|some true=>some true|some false=>W.kitAny K (.type "tuple") [.type "tuple"]|none=>none)=_
 rw[e]
 rfl
theorem pH{A:String}(h1:W.kitOne K (.type A) (.type "list")=some false)(h2:W.kitOne K (.type A) (.type "tuple")=some false):W.kitAny K (.type A) (["list","tuple"].map .type)=some false:=by
 show (match W.kitOne K (.type A) (.type "list") with|some true=>some true|some false=>W.kitAny K (.type A) [.type "tuple"]|none=>none)=_
 rw[h1]
 show (match W.kitOne K (.type A) (.type "tuple") with|some true=>some true|some false=>W.kitAny K (.type A) []|none=>none)=_
 rw[h2]
 rfl
theorem sJ{t:TE}{f:VF}(h:PuE K ns t f):PuE K ns (tCB (y1 K) (gv t (gv (yF (gv (tC (.ty "list")) (gv (tC (.ty "tuple")) kc))) kc))) (ah pG (ae f ak)):=by
 intro L env σ H Q d he hf k
 obtain⟨as,eas,hf⟩:=bnd hf
 obtain⟨a,ea,e2⟩:=bnd eas
 cases e2
 clear eas
 refine h L env σ H _ a he ea fun x H1 S1 r=>⟨by show 2≤sizeLine;decide,fun p hp=> ?_⟩
 have N:=bZ hp (.tup [.ty "list", .ty "tuple"])
 have r2:=r.same N
 have fin:∀{b:Bool},d= .bl b→W.kitAny K (.type a.ty) (["list","tuple"].map .type)=some b→(∀xs,a≠ .kt xs)→(∀xs,a≠ .fz xs)→(∀c fs,a≠ .ob c fs)→y1 K [x, .ref p] (upd H1 p (.tup [.ty "list", .ty "tuple"])) Q:=fun {b} e kk h1 h2 h3=>by
  subst e
  exact⟨x,p,["list","tuple"],_,b,rfl,bV,AB r2 h1 h2 h3,kk,k _ _ (S1.trans N) (.bl _)⟩
 cases a with
 |non=>cases hf;exact fin rfl (pH (A:="NoneType") gc gc) (fun _ z=>by cases z) (fun _ z=>by cases z) (fun _ _ z=>by cases z)
 |bl b=>cases hf;exact fin rfl (pH (A:="bool") gc gc) (fun _ z=>by cases z) (fun _ z=>by cases z) (fun _ _ z=>by cases z)
 |int b=>cases hf;exact fin rfl (pH (A:="int") gc gc) (fun _ z=>by cases z) (fun _ z=>by cases z) (fun _ _ z=>by cases z)
 |str b=>cases hf;exact fin rfl (pH (A:="str") gc gc) (fun _ z=>by cases z) (fun _ z=>by cases z) (fun _ _ z=>by cases z)
 |tup b=>cases hf;exact fin rfl zp (fun _ z=>by cases z) (fun _ z=>by cases z) (fun _ _ z=>by cases z)
 |lst b=>cases hf;exact fin rfl zo (fun _ z=>by cases z) (fun _ z=>by cases z) (fun _ _ z=>by cases z)
 |dk b c=>cases hf
 |dt b c=>cases hf
 |_=>cases hf
def Cl.un(x:Str):Option Cl:=if x="Open" then some .Open else if x="Bridge" then some .Bridge else if x="Road" then some .Road else if x="Cart" then some .Cart else if x="Trip" then some .Trip else if x="Day" then some .Day else none
theorem Cl.un_s(c:Cl):Cl.un c.s=some c:=by cases c<;>decide
theorem Cl.inj{c d:Cl}(h:c.s=d.s):c=d:=Option.some.inj (by rw[←Cl.un_s c,←Cl.un_s d,h])
theorem pI{t:TE}{f:VF}(c:Cl)(hm:c.s∈ns)(h:PuE K ns t f):PuE K ns (tCB (y2 K) (gv t (gv (tC (.ref (clA K c.s))) kc))) (ah (isC c) (ae f ak)):=by
 intro L env σ H Q d he hf k
 obtain⟨as,eas,hf⟩:=bnd hf
 obtain⟨a,ea,e2⟩:=bnd eas
 cases e2
 clear eas
 refine h L env σ H _ a he ea fun x H1 S1 r=> ?_
 cases r with
 | @ob a2 dx gs c' fs l e kk r=>
   cases hf
   refine⟨_,_,_,_,rfl,PKd.ty kk e,kk.kit _ hm, ?_⟩
   have:([c'.s].contains c.s)=decide (c'=c):=by
    rw[List.contains_cons,List.contains_nil,Bool.or_false]
    by_cases z:c'=c
    · subst z;simp
    · rw[decide_eq_false z]
      exact beq_eq_false_iff_ne.mpr fun q=>z (Cl.inj q.symm)
   rw[this]
   exact k _ _ S1 (.bl _)
 |_=>cases hf
def fo(c:Cl)(I:List D→Option (List (Fl×D)))(f:AF):VF:=fun env=>(f env).bind fun ds=>(I ds).map (.ob c)
def lQ:List (Fl×VF)→Env→Option (List (Fl×D))
 |[],_=>some []
 |(f,e)::r,env=>(e env).bind fun d=>(lQ r env).map ((f,d):: ·)
def oz(l:List (Fl×VF))(ds:List D):Option (List (Fl×D)):=lQ l (none::ds.map some)
def spI(K:W.Frag)(ns:List Str)(c:Cl)(n:Nat)(I:List D→Option (List (Fl×D))):Sp:=fun vs H Q _=>∃(x dx:Addr) (us:List V) (L:Addr→Prop) (ds:List D) (fs:List (Fl×D)),vs= .ref x::us∧ds.length=n∧H x=some (.ins (clA K c.s) dx [])∧¬L x∧CF K ns c∧Rds K ns L H us ds∧I ds=some fs∧
 ∀H' gs,(∀b o,b≠x→H b=some o→H' b=some o)→H' x=some (.ins (clA K c.s) dx gs)→Rfs K ns (Nw L H) H' gs fs→Q .non H'
theorem pJ{n:Nat}{I:List D→Option (List (Fl×D))}{t:TA}{f:AF}{E:XK}(c:Cl)(d:CF K ns c)(h:PuA K ns n t f):PuE K ns (sj (clA K c.s) (spI K ns c n I) [] E t) (fo c I f):=by
 intro L env σ H Q r he hf k
 obtain⟨as,ea,hf⟩:=bnd hf
 obtain⟨fs,ef,rfl⟩:=Option.map_eq_some_iff.mp hf
 refine h L env σ H _ as he ea fun vs H1 hl S1 rv x dx hx hd hne=> ?_
 have up:∀b o,H1 b=some o→upd (upd H1 dx (.own x)) x (.ins (clA K c.s) dx []) b=some o:=fun b o e=>by rw[bO (bL e hx),bO (bL e hd)];exact e
 refine⟨x,dx,vs,fun a=>Nw L H a∧a≠x,as,fs,by rw[List.append_nil],hl,bV,fun q=>q.2 rfl,d,rv.mono2 (fun a o e l=>⟨l,bL e hx⟩) (.of up),ef,fun H' gs kp e' rf=>⟨rfl, ?_⟩⟩
 have up2:Same H1 H':=fun b o e=>kp b o (bL e hx) (up b o e)
 refine k _ _ (S1.trans up2) (.ob (.inr (gX S1 hx)) e' d (rf.mono2 (fun a o e l=> ?_) .refl))
 rcases l with l|l
 · exact l.1
 · refine .inr (gX S1 ?_)
   cases z:H1 a with
   |none=>rfl
   |some o'=>rw[up a o' z] at l;cases l
def Fl.un(x:Str):Option Fl:=([.length, .name, .bears, .wide, .most, .pieces, .rounds, .shuts, .speed, .wheels, .cart, .way, .start, .crossings, .ended, .road, .loads, .sends]:List Fl).find? fun f=>decide (f.s=x)
theorem Fl.un_s(f:Fl):Fl.un f.s=some f:=by cases f<;>decide
theorem Fl.inj{c d:Fl}(h:c.s=d.s):c=d:=Option.some.inj (by rw[←Fl.un_s c,←Fl.un_s d,h])
def PuN(K:W.Frag)(ns:List Str)(C:Addr)(t:TS)(l:List (Fl×VF)):Prop:=∀(L:Addr→Prop) (env:Env) (σ:St) (H:Hp) (E:Ends) (x dx:Addr) (gs:List (Str×V)) (fs fs':List (Fl×D)),σ[0]? =some (some (.ref x))→H x=some (.ins C dx gs)→¬L x→Cls K C→(∀f∈l,NoAttr K C f.1.s)→gs.length+l.length<900→(fs.map Prod.fst++l.map Prod.fst).Nodup→EnvR K ns L env σ H→Rfs K ns L H gs fs→lQ l env=some fs'→
 (∀H' gs',(∀b o,b≠x→H b=some o→H' b=some o)→H' x=some (.ins C dx gs')→gs'.length≤gs.length+l.length→Rfs K ns (Nw L H) H' gs' (fs++fs')→E.nx σ H')→t E σ H
theorem mY{f:Str}{v:V}:∀{gs:List (Str×V)},(iQ f v gs).length≤gs.length+1
 |[]=>Nat.le_refl _
 |(g,x)::r=>by
  unfold iQ
  split
  · exact Nat.le_succ _
  · exact Nat.succ_le_succ mY
theorem sK{L:Addr→Prop}{H:Hp}{f:Fl}{v:V}{gs:List (Str×V)}{fs:List (Fl×D)}(h:Rfs K ns L H gs fs):f∉fs.map Prod.fst→Rfs K ns L H (iQ f.s v gs) fs:=by
 induction fs with
 |nil=>intro _;exact .nil
 |cons g fs ih=>
  intro hn
  cases h with
  |cons e h t=>
   refine .cons ?_ h (ih t fun q=>hn (List.mem_cons_of_mem _ q))
   rw[gN,if_neg fun z=>hn (by rw[Fl.inj z];exact List.mem_cons_self)]
   exact e
theorem sL{L:Addr→Prop}{H:Hp}{gs:List (Str×V)}{fs es:List (Fl×D)}(h:Rfs K ns L H gs fs)(s:Rfs K ns L H gs es):Rfs K ns L H gs (fs++es):=by
 induction fs with
 |nil=>exact s
 |cons g fs ih=>
  cases h with
  |cons e h t=>exact .cons e h (ih t)
theorem jl{C:Addr}{te:TE}{fe:VF}(f:Fl)(h:PuE K ns te fe):PuN K ns C (uC K (hV 0) te f.s) [(f,fe)]:=by
 intro L env σ H E x dx gs fs fs' hs hx hl cl na hlen nd he rf hi k
 obtain⟨d,ed,hi⟩:=bnd hi
 cases hi
 refine h L env σ H _ d he ed fun v H1 S1 rv=>⟨_,hs,x,C,dx,gs,rfl,S1 _ _ hx,cl,na _ (List.mem_singleton.mpr rfl),by simp only[List.length_singleton] at hlen;omega, ?_⟩
 have np:¬Nw L H x:=fun q=>q.elim hl fun z=>by rw[hx] at z;cases z
 have kp:KeepL (Nw L H) H1 (upd H1 x (.ins C dx (iQ f.s v gs))):=fun a o e hm=>by
  by_cases z:a=x
  · subst z
    rw[S1 _ _ hx] at e
    cases e
    exact absurd (hm rfl) np
  · rw[bO z];exact e
 have nf:f∉fs.map Prod.fst:=fun q=>by
  have:=(List.nodup_append.mp nd).2.2 _ q f (List.mem_singleton.mpr rfl)
  exact this rfl
 refine k _ _ (fun b o hb e=>by rw[bO hb];exact S1 _ _ e) bV (by simpa using mY) ?_
 refine sL ((sK rf nf).mono (fun _=> .inl) (fun a o e hm=> ?_)) (.cons (by rw[gN,if_pos rfl]) (rv.mono (fun _ q=>q) kp) .nil)
 exact kp a o (S1 _ _ e) fun q=> .inl (hm q)
theorem li{C:Addr}{t u:TS}{a:Fl×VF}{r:List (Fl×VF)}(h1:PuN K ns C t [a])(h2:PuN K ns C u r):PuN K ns C (iP t u) (a::r):=by
 intro L env σ H E x dx gs fs fs' hs hx hl cl na hlen nd he rf hi k
 obtain⟨f,fe⟩:=a
 obtain⟨d,ed,hi⟩:=bnd hi
 obtain⟨gU,er,rfl⟩:=Option.map_eq_some_iff.mp hi
 have nd':(fs.map Prod.fst++[f]).Nodup∧((fs++[(f,d)]).map Prod.fst++r.map Prod.fst).Nodup:=by
  rw[List.map_cons] at nd
  have e:fs.map Prod.fst++f::r.map Prod.fst=(fs.map Prod.fst++[f])++r.map Prod.fst:=by simp
  rw[e] at nd
  exact⟨(List.nodup_append.mp nd).1,by simpa using nd⟩
 refine h1 L env σ H _ x dx gs fs [(f,d)] hs hx hl cl (fun g hg=>na g (by rw[List.mem_singleton.mp hg];exact List.mem_cons_self)) (by simp only[List.length_cons] at hlen;simp only[List.length_singleton];omega) nd'.1 he rf (by show (fe env).bind _=_;rw[ed];rfl) fun H1 gs1 kp1 hx1 hl1 rf1=> ?_
 have np:¬Nw L H x:=fun q=>q.elim hl fun z=>by rw[hx] at z;cases z
 have hk:KeepL L H H1:=fun a o e hm=>by
  by_cases z:a=x
  · subst z
    rw[hx] at e
    cases e
    exact absurd (hm rfl) hl
  · exact kp1 a o z e
 refine h2 (Nw L H) env σ H1 E x dx gs1 (fs++[(f,d)]) gU hs hx1 np cl (fun g hg=>na g (List.mem_cons_of_mem _ hg)) (by simp only[List.length_cons,List.length_nil] at hlen hl1 ⊢;omega) nd'.2 (fun i d' e=>by
  obtain⟨v,q,rr⟩:=he i d' e
  exact⟨v,q,rr.mono (fun _=> .inl) hk⟩) rf1 er fun H2 gs2 kp2 hx2 hl2 rf2=> ?_
 refine k H2 gs2 (fun b o hb e=>kp2 b o hb (kp1 b o hb e)) hx2 (by simp only[List.length_cons,List.length_nil] at hl1 hl2 ⊢;omega) ?_
 rw[List.append_assoc] at rf2
 refine rf2.mono (fun a q=> ?_) .refl
 rcases q with q|q
 · exact q
 · by_cases z:a=x
   · subst z;rw[hx1] at q;cases q
   · refine .inr ?_
     cases w:H a with
     |none=>rfl
     |some o=>rw[kp1 a o z w] at q;cases q
theorem pK{c:Cl}{t:TS}{l:List (Fl×VF)}{n:Nat}{N:List Str}{vs:List V}{H:Hp}{Q:VK}{E:XK}(h:PuN K ns (clA K c.s) t l)(hf:l.map Prod.fst=c.fs)(hN:N.length=n+1)(s:spI K ns c n (oz l) vs H Q E):t {nx:=fun _ H'=>Q .non H',rt:=Q} (start N vs) H:=by
 obtain⟨x,dx,us,L,ds,fs,rfl,hl,hx,nl,cf,r,ei,k⟩:=s
 have hlen:l.length<800:=by
  have:=congrArg List.length hf
  rw[List.length_map] at this
  rw[this]
  cases c<;>decide
 have nd:(l.map Prod.fst).Nodup:=by rw[hf];cases c<;>decide
 have st:start N (.ref x::us)=some (.ref x)::us.map some:=by
  unfold L2.start
  have:N.length-(V.ref x::us).length=0:=by rw[List.length_cons,r.len];omega
  rw[this]
  simp
 rw[st]
 refine h L (none::ds.map some) _ H _ x dx [] [] fs rfl hx nl cf.cls (fun f hf'=>cf.na _ ?_) (by show 0+l.length<900;omega) (by simpa using nd) (fun i d e=> ?_) .nil ei fun H' gs kp hx' _ rf=>k H' gs kp hx' (by simpa using rf)
 · rw[←hf,List.map_map]
   exact List.mem_map.mpr ⟨f,hf',rfl⟩
 · cases i with
   |zero=>cases e
   |succ i=>
    have e':(ds.map some)[i]? =some (some d):=e
    rw[List.getElem?_map] at e'
    obtain⟨d',hd,e'⟩:=Option.map_eq_some_iff.mp e'
    cases e'
    obtain⟨v,hv,rv⟩:=r.get hd
    exact⟨v,by show (us.map some)[i]? =_;rw[List.getElem?_map,hv];rfl,rv⟩
theorem pL{c:Cl}{n:Nat}{I:List D→Option (List (Fl×D))}{vs:List V}{H:Hp}{Q:VK}{E:XK}(h:spI K ns c n I vs H Q E):vs.length=n+1:=by
 obtain⟨x,dx,us,L,ds,fs,rfl,hl,_,_,_,r,_⟩:=h
 rw[List.length_cons,r.len,hl]
def rO:Nat→Nat→TGs
 |_,0=>yw
 |j,n+1=>uw (iq j) (rO (j+1) n)
theorem sM{Q:St→Hp→Prop}{H:Hp}{c:St}:∀(n:Nat) (pre xs:List V),xs.length=n→Q ((pre++xs).map some++c) H→rO pre.length n xs (pre.map some++(List.replicate n none++c)) H Q
 |0,pre,[],_,q=>⟨rfl,by simpa using q⟩
 |n+1,pre,x::xs,hl,q=>by
  refine⟨x,xs,rfl, ?_⟩
  show rO (pre.length+1) n xs ((pre.map some++(List.replicate (n+1) none++c)).set pre.length (some x)) H Q
  have e:(pre.map some++(List.replicate (n+1) none++c)).set pre.length (some x)=(pre++[x]).map some++(List.replicate n none++c):=by
   rw[List.set_append_right _ _ (by simp)]
   simp[List.replicate_succ]
  rw[e]
  have:=sM (Q:=Q) (H:=H) (c:=c) n (pre++[x]) xs (by simpa using hl) (by simpa using q)
  simpa using this
def jF(kx:Nat)(fc:BF)(fe:VF)(caps:Env):List D→Option (List D)
 |[]=>some []
 | .tup ds::xs=>if ds.length=kx then(fc (ds.map some++caps)).bind fun b=>if b=true then(fe (ds.map some++caps)).bind fun y=>(jF kx fc fe caps xs).map (y:: ·) else jF kx fc fe caps xs else none
 |_=>none
def vj(kx:Nat)(fi:AF)(fc:BF)(fe:VF)(cap:List Nat):VF:=fun env=>(fi env).bind fun ds=>if ds.length<1000000 then(jF kx fc fe (jC cap env) ds).map .lst else none
theorem vk{L:Addr→Prop}{env:Env}{σ:St}{H:Hp}{xs:List V}{ds:List D}{cap:List Nat}(he:EnvR K ns L env σ H)(hx:Rds K ns L H xs ds):EnvR K ns L (ds.map some++jC cap env) (xs.map some++cap.map fun i=>(σ[i]?).join) H:=by
 intro i d e
 by_cases hi:i<ds.length
 · rw[List.getElem?_append_left (by simpa using hi),List.getElem?_map] at e
   obtain⟨d',hd,e⟩:=Option.map_eq_some_iff.mp e
   cases e
   obtain⟨v,hv,rv⟩:=hx.get hd
   exact⟨v,by rw[List.getElem?_append_left (by rw[List.length_map,hx.len];exact hi),List.getElem?_map,hv];rfl,rv⟩
 · rw[List.getElem?_append_right (by simpa using hi),List.length_map] at e
   have q:=sH (cap:=cap) (x:= .non) he .non (i-ds.length+1) d e
   obtain⟨v,hv,rv⟩:=q
   refine⟨v, ?_,rv⟩
   rw[List.getElem?_append_right (by rw[List.length_map,hx.len];omega),List.length_map,hx.len]
   exact hv
theorem vm{kx:Nat}{wi:TI}{tc:TT}{te:TE}{fi:AF}{fc:BF}{fe:VF}{cap:List Nat}(hi:PuI K ns wi fi)(hc:PuT K ns tc fc)(he:PuE K ns te fe):PuF K ns (rG wi kx (wn K kx (rO 0 kx)) tc te cap) (vj kx fi fc fe cap):=by
 intro L env σ H Q d hE hf k
 obtain⟨ds,ei,hf⟩:=bnd hf
 split at hf
 case isFalse=>cases hf
 rename_i hn
 obtain⟨out,eo,rfl⟩:=Option.map_eq_some_iff.mp hf
 refine hi L env σ H _ ds hE ei fun J H1 S1 it=> ?_
 intro acc ha
 have hacc:H acc=none:=gX S1 ha
 have E1:EnvR K ns (Lx L H acc) env σ H1:=(hE.mono2 (L':=Lx L H acc) (fun a o e l=>⟨.inl l,bL e hacc⟩) .refl).same S1
 refine⟨fun i m H2=>m=ds.length-i∧i≤ds.length∧Same H1 H2∧∃ys dn gU,H2 acc=some (.lst ys)∧Rds K ns (Lx L H acc) H2 ys dn∧ys.length≤i∧jF kx fc fe (jC cap env) (ds.drop i)=some gU∧dn++gU=out,⟨_,rfl,Nat.zero_le _,bZ ha _,[],[],out,bV, .nil,Nat.le_refl _,by rw[List.drop_zero];exact eo,rfl⟩, ?_⟩
 rintro i m H2 ⟨rfl,hle,S2,ys,dn,gU,ea,rd,hy,ec,ed⟩
 obtain⟨go,stop⟩:=it (Lx L H acc) i H2 (fun a o e l=>⟨l,bL e ha⟩) (.of S2)
 by_cases hlt:i<ds.length
 · obtain⟨g,yl⟩:=go ds[i] (List.getElem?_eq_getElem hlt)
   refine .inr ⟨g,fun x H3 y=> ?_⟩
   obtain⟨S3,rx⟩:=yl x H3 y
   have ea3:=S3 _ _ ea
   have rx2:Rd K ns (Lx L H acc) H3 x ds[i]:=rx.mono2 (fun a o e l=>by
    rcases l with l|l
    · exact l
    · exact⟨.inr (gX (S1.trans S2) l),fun z=>by rw[z,ea] at l;cases l⟩) .refl
   rw[List.drop_eq_getElem_cons hlt] at ec
   generalize ds[i]=di at rx2 ec
   cases di<;>first|(cases ec;done)|skip
   rename_i es
   rw[jF] at ec
   split at ec
   case isFalse=>cases ec
   rename_i hk
   cases rx2 with
   |tup et rt=>
    rename_i ta vs
    have hvl:vs.length=kx:=by rw[rt.len,hk]
    refine⟨_,vs,rfl,SqT.of et,hvl, ?_⟩
    have base:rO 0 kx vs (List.replicate kx none++cap.map fun i=>(σ[i]?).join) H3=rO ([]:List V).length kx vs (([]:List V).map some++(List.replicate kx none++cap.map fun i=>(σ[i]?).join)) H3:=rfl
    show rO 0 kx vs (List.replicate kx none++cap.map fun i=>(σ[i]?).join) H3 _
    rw[base]
    refine sM kx [] vs hvl ⟨⟨by simp[kg,hvl],fun j v hj=> ?_⟩, ?_⟩
    · unfold kg at hj
      by_cases hjk:j<kx
      · rw[List.getElem?_append_left (by simpa using hjk)] at hj
        have:=List.eq_of_mem_replicate (List.mem_of_getElem? hj)
        cases this
      · rw[List.getElem?_append_right (by simpa using hjk),List.length_replicate] at hj
        rw[List.nil_append,List.getElem?_append_right (by rw[List.length_map,hvl];omega),List.length_map,hvl]
        exact hj
    have E3:EnvR K ns (Lx L H acc) (es.map some++jC cap env) (([]++vs).map some++cap.map fun i=>(σ[i]?).join) H3:=vk ((E1.same S2).same S3) rt
    obtain⟨b,eb,ec⟩:=bnd ec
    refine hc _ _ _ _ _ b E3 eb fun H4 S4=> ?_
    have ea4:=S4 _ _ ea3
    cases b with
    |false=>
     rw[if_neg Bool.false_ne_true] at ec ⊢
     exact⟨ds.length-(i+1),by omega,rfl,hlt,S2.trans (S3.trans S4),ys,dn,gU,ea4,rd.same (S3.trans S4),by omega,ec,ed⟩
    |true=>
     rw[if_pos rfl] at ec ⊢
     obtain⟨y,ey,ec⟩:=bnd ec
     obtain⟨rest',er,rfl⟩:=Option.map_eq_some_iff.mp ec
     refine he _ _ _ _ _ y (E3.same S4) ey fun v H5 S5 rv=> ?_
     have ea5:=S5 _ _ ea4
     have SS:=S3.trans (S4.trans S5)
     have up:∀{L3:Addr→Prop},¬L3 acc→KeepL L3 H5 (upd H5 acc (.lst (ys++[v]))):=fun {L3} hl a o e hm=>by
      by_cases z:a=acc
      · subst z
        rw[ea5] at e
        cases e
        exact absurd (hm rfl) hl
      · rw[bO z];exact e
     have rv2:Rd K ns (Lx L H acc) H5 v y:=rv.mono2 (fun a o e l=>by
      rcases l with l|l
      · exact l
      · exact⟨.inr (gX (S1.trans (S2.trans (S3.trans S4))) l),fun z=>by rw[z,ea4] at l;cases l⟩) .refl
     refine⟨ys,ea5,Nat.lt_of_le_of_lt hy (Nat.lt_trans hlt (Nat.lt_trans hn (by decide))),ds.length-(i+1),by omega,rfl,hlt,fun a o e=> ?_,ys++[v],dn++[y],rest',bV, ?_, ?_,er,by rw[←ed];simp⟩
     · rw[bO (bL e ha)]
       exact SS _ _ (S2 _ _ e)
     · exact((rd.same SS).append (.cons rv2 .nil)).mono (fun _ q=>q) (up fun q=>q.2 rfl)
     · rw[List.length_append,List.length_singleton];omega
 · have hi':ds.length=i:=by omega
   refine .inl ⟨stop hi', ?_⟩
   rw[List.drop_of_length_le (by omega)] at ec
   cases ec
   rw[List.append_nil] at ed
   subst ed
   exact k acc ys dn H2 rfl (S1.trans S2) hacc ea rd
def aY(i j:Nat):SF:=fun env=>(e8 j env).bind fun xs=>some (.nx ((env.set i (some (.lst xs))).set j none))
theorem zq{fr:Fr}{lf fl:List Bool}(i j:Nat)(hj:fl[j]? =some true)(hi:i<fl.length)(hij:i≠j):PuS K ns fr lf fl (qq (hV j) (iq i)) (aY i j) ((fl.set i true).set j false):=by
 intro L0 H0 O env σ H E I k
 rcases mV I hj with hn|⟨p,vs,ds,ho,hs,hd,hp,r⟩
 · exact Fin.no k (by unfold aY;rw[hn];rfl)
 obtain⟨h0,_,_⟩:=I.ow j p ho
 unfold aY at k
 rw[hd] at k
 refine⟨_,hs,k ((O.set i (some p)).set j none) _ H ⟨fun q h=> ?_,fun _ _ e _=>e,fun _ h=>h⟩ ?_⟩
 · have h:=ga h
   rcases List.mem_or_eq_of_mem_set h with h|h
   · exact .inl h
   · cases h
     exact .inl (List.mem_of_getElem? ho)
 have hil:i<O.length:=by rw[←I.fl,List.length_map] at hi;exact hi
 have hjl:j<O.length:=(List.getElem?_eq_some_iff.mp ho).1
 have get:∀m,((O.set i (some p)).set j none)[m]? =if j=m then some none else if i=m then some (some p) else O[m]? :=fun m=>by
  rw[List.getElem?_set]
  by_cases z:j=m
  · subst z
    rw[if_pos rfl,if_pos rfl,if_pos (by simpa using hjl)]
  · rw[if_neg z,if_neg z,List.getElem?_set]
    by_cases z2:i=m
    · subst z2
      rw[if_pos rfl,if_pos rfl,if_pos hil]
    · rw[if_neg z2,if_neg z2]
 have up:∀a,Lm L0 H0 O a→Lm L0 H0 ((O.set i (some p)).set j none) a:=fun a h=>⟨h.1,fun q=>by
  rcases List.mem_or_eq_of_mem_set (ga q) with q|q
  · exact h.2 q
  · cases q
    exact h.2 (List.mem_of_getElem? ho)⟩
 refine⟨I.sm,by rw[←I.fl,List.map_set,List.map_set];rfl,by simp[I.ln],by simp[I.le],fun m d e h=> ?_,fun m q h=> ?_,fun m n q h1 h2=> ?_⟩
 · rw[get] at h
   by_cases z:j=m
   · subst z
     rw[List.getElem?_set,if_pos rfl] at e
     split at e<;>cases e
   · rw[if_neg z] at h
     by_cases z2:i=m
     · rw[if_pos z2] at h;cases h
     · rw[if_neg z2] at h
       rw[List.getElem?_set,if_neg z,List.getElem?_set,if_neg z2] at e
       obtain⟨v,q,rr⟩:=I.rd m d e h
       exact⟨v,by rw[List.getElem?_set,if_neg z2];exact q,rr.mono up .refl⟩
 · rw[get] at h
   by_cases z:j=m
   · rw[if_pos z] at h;cases h
   · rw[if_neg z] at h
     by_cases z2:i=m
     · subst z2
       rw[if_pos rfl] at h
       cases h
       exact⟨h0,by rw[List.getElem?_set,if_pos rfl,if_pos (by rw[I.ln];exact hil)], .lst vs, .lst ds,by rw[List.getElem?_set,if_neg z,List.getElem?_set,if_pos rfl,if_pos (by rw[I.le];exact hil)],hp,r.mono up .refl⟩
     · rw[if_neg z2] at h
       obtain⟨g0,gs,us,es,ge,gp,gr⟩:=I.ow m q h
       exact⟨g0,by rw[List.getElem?_set,if_neg z2];exact gs,us,es,by rw[List.getElem?_set,if_neg z,List.getElem?_set,if_neg z2];exact ge,gp,gr.mono up .refl⟩
 · rw[get] at h1 h2
   by_cases a1:j=m
   · rw[if_pos a1] at h1;cases h1
   · rw[if_neg a1] at h1
     by_cases a2:j=n
     · rw[if_pos a2] at h2;cases h2
     · rw[if_neg a2] at h2
       by_cases b1:i=m
       · rw[if_pos b1] at h1
         cases h1
         by_cases b2:i=n
         · omega
         · rw[if_neg b2] at h2
           exact absurd (I.inj j n p ho h2) a2
       · rw[if_neg b1] at h1
         by_cases b2:i=n
         · rw[if_pos b2] at h2
           cases h2
           exact absurd (I.inj j m p ho h1) a1
         · rw[if_neg b2] at h2
           exact I.inj m n q h1 h2
def bJ(i:Nat)(f:VF):SF:=fun env=>(f env).bind fun| .lst ds=>if flats ds=true then some (.nx (env.set i (some (.lst ds)))) else none|_=>none
end
end PD
namespace PD
open PySem L2
section
variable{K:W.Frag}{ns:List Str}
theorem oS{t:TE}{g:D→D→Option D}{a b:VF}(h:PuE K ns t (oD g a b)):PuE K ns t (oD (aa g) a b):=by rw[az];exact h
theorem uS{t:TE}{g:D→Option D}{a:VF}(h:PuE K ns t (uD g a)):PuE K ns t (uD (aa g) a):=by rw[az];exact h
theorem cS{t:TE}{g:List D→Option D}{a:AF}(h:PuE K ns t (ah g a)):PuE K ns t (ah (aa g) a):=by rw[az];exact h
theorem cSF{t:TE}{g:List D→Option D}{a:AF}(h:PuF K ns t (ah g a)):PuF K ns t (ah (aa g) a):=by rw[az];exact h
theorem slS{t:TE}{g:D→Option Int→Option Int→Option D}{a:VF}{b c:OF}(h:PuE K ns t (slD g a b c)):PuE K ns t (slD (aa g) a b c):=by rw[az];exact h
theorem iS{t:TI}{g:List D→Option (List D)}{a:AF}(h:PuI K ns t (iaD g a)):PuI K ns t (iaD (aa g) a):=by rw[az];exact h
end
end PD
namespace L2
open PySem PySem.Spec PyProof.Rows
section
variable{X:Cx}
theorem hu1{n:Nat}(h:n+64<cLine):n+1<cLine:=Nat.lt_of_le_of_lt (by omega) h
theorem lj{P w K mg base k x ps sp n e es t p pos}(g:Got P w K mg base k x ps sp)(e1:X.prog=P)(e2:X.w=w)(e3:X.K=K)(e4:X.mg=mg)(e5:X.base=base)(hr:Room n X.A)(hk:k≤n)(hg:Gl X x)(ha:PA X (e::es) t)(hdb:(x==("__debug__":Str))=false:=by decide)
 (he:starEach (e::es) X.env=(false,eval e X.env)::starEach es X.env:=by rfl)(hpl:(backTo pos (starEach es X.env)).any (·.1)=false:=by rfl):
 PE X (.Call (.Name x p) (e::es) [] pos) (n5 sp [] E0 t):=by
 subst e1 e2 e3 e4 e5
 exact bT g hr hk hg ha hdb he hpl
end
end L2
namespace PD
open PySem L2
def sN:D→Option Key
 | .int i=>some (.inl i)
 | .str s=>some (.inr s)
 |_=>none
def lp:List D→Option (List Key)
 |[]=>some []
 |d::r=>(sN d).bind fun k=>(lp r).map (k:: ·)
def mZ{κ:Type}[DecidableEq κ]:List κ→List D→κ→Option D
 |j::ks,d::ds,k=>if j=k then some d else mZ ks ds k
 |_,_,_=>none
def vn:D→D→Option (Option D)
 | .dk ks ds,k=>(sN k).map fun k=>mZ ks ds k
 | .dt ks ds, .tup xs=>(lp xs).map fun k=>mZ ks ds k
 |_,_=>none
def pM(d k:D):Option D:=(vn d k).join
section
variable{K:W.Frag}{ns:List Str}{L:Addr→Prop}{H:Hp}
theorem vo{v:V}{d:D}{k:Key}(r:Rd K ns L H v d)(h:sN d=some k):v=kV k:=by
 cases r<;>first|(cases h;done)|(cases h;rfl)
theorem sO{vs:List V}{ds:List D}{ks:List Key}(r:Rds K ns L H vs ds)(h:lp ds=some ks):vs=ks.map kV:=by
 induction vs generalizing ds ks with
 |nil=>rw[r.nilL] at h;cases h;rfl
 |cons v vs ih=>
  obtain⟨d,es,rfl,a,t⟩:=r.consL
  obtain⟨k,e1,h⟩:=bnd h
  obtain⟨l,e2,rfl⟩:=Option.map_eq_some_iff.mp h
  rw[vo a e1,ih t e2]
  rfl
theorem rP{κ:Type}[DecidableEq κ](k:κ):∀{kvs:List (κ×V)} {ds:List D},Rds K ns L H (kvs.map (·.2)) ds→(mZ (kvs.map (·.1)) ds k=none∧kW kvs k=none)∨∃d v,mZ (kvs.map (·.1)) ds k=some d∧kW kvs k=some v∧Rd K ns L H v d
 |[],_, .nil=> .inl ⟨rfl,rfl⟩
 |(j,w)::kvs,_, .cons (d:=d) (ds:=ds) a t=>by
  by_cases e:j=k
  · refine .inr ⟨d,w, ?_,mQ (p:=(j,w)) e,a⟩
    show (if j=k then some d else _)=_
    rw[if_pos e]
  · have q:mZ (((j,w)::kvs).map (·.1)) (d::ds) k=mZ (kvs.map (·.1)) ds k:=by
     show (if j=k then some d else _)=_
     rw[if_neg e]
    rw[q,mR (p:=(j,w)) e]
    exact rP k t
theorem w5{x y:V}{d k:D}{o:Option D}(rx:Rd K ns L H x d){L':Addr→Prop}(ry:Rd K ns L' H y k)(h:vn d k=some o):∃a,x= .ref a∧IsD H a∧((o=none∧DGet H a y none)∨∃e v,o=some e∧DGet H a y (some v)∧Rd K ns L H v e):=by
 cases rx with
 | @dk a kvs ds l e r=>
   obtain⟨j,e1,rfl⟩:=Option.map_eq_some_iff.mp h
   have:=vo ry e1
   subst this
   refine⟨a,rfl, .inl ⟨_, .inl e⟩, ?_⟩
   have g:=DGet.k (k:=j) e
   rcases rP j r with⟨q1,q2⟩|⟨u,v,q1,q2,q3⟩
   · exact .inl ⟨q1,by rw[q2] at g;exact g⟩
   · exact .inr ⟨u,v,q1,by rw[q2] at g;exact g,q3⟩
 | @dt a kvs ds l e r=>
   cases ry with
   | @tup b vs es e2 r2=>
     obtain⟨j,e1,rfl⟩:=Option.map_eq_some_iff.mp h
     have:=sO r2 e1
     subst this
     refine⟨a,rfl, .inr ⟨_, .inl e⟩, ?_⟩
     have g:=DGet.t e e2
     rcases rP j r with⟨q1,q2⟩|⟨u,v,q1,q2,q3⟩
     · exact .inl ⟨q1,by rw[q2] at g;exact g⟩
     · exact .inr ⟨u,v,q1,by rw[q2] at g;exact g,q3⟩
   |_=>cases h
 |_=>cases h
theorem sP{ta tb:TE}{fa fb:VF}(ha:PuE K ns ta fa)(hb:PuE K ns tb fb):PuE K ns (yd ta tb) (oD pM fa fb):=by
 intro L env σ H Q d he hf k
 obtain⟨a,ea,hf⟩:=bnd hf
 obtain⟨b,eb,hf⟩:=bnd hf
 refine ha L env σ H _ a he ea fun x H1 S1 r1=> ?_
 refine hb L env σ H1 _ b (he.same S1) eb fun y H2 S2 r2=> ?_
 unfold pM at hf
 cases e:vn a b with
 |none=>rw[e] at hf;cases hf
 |some o=>
  rw[e] at hf
  have hf:o=some d:=hf
  subst hf
  obtain⟨p,rfl,_,h⟩:=w5 (r1.same S2) r2 e
  rcases h with⟨z,_⟩|⟨e',v,z,g,rv⟩
  · cases z
  · cases z
    exact⟨p,v,rfl,g,k v H2 (S1.trans S2) rv⟩
end
end PD
namespace PD
open PySem L2
section
variable{K:W.Frag}{ns:List Str}
theorem R2P.s{r:R2}{g:D→D→Option D}(h:R2P K ns r g):R2P K ns r (aa g):=by rw[az];exact h
end
end PD
namespace L2
open PySem PySem.Spec PyProof.Rows
theorem vp(a v:Value):argsOk "max" ⟨[a],[(Str.ofString "default",v)]⟩:=by delta argsOk;kernel_rfl
theorem jG:(toString "max"++toString ".loop":String)="max.loop":=by decide
section
variable{prog:Program}{w:World}{A:Around}{R:Result→Shared→Prop}{J:Addr}{fp wr:List Addr}{G:Array GenState→Array GenState→Prop}{n:Nat}{P:Nat→Value→Prop}{St:Nat→Shared→Prop}
abbrev AD(its:Array Value)(c:Nat):Obj:={cls:= .type "list",dict:=none,data:= .seq its c,slots:= #[]}
theorem vq{dv:Value}(W:WalksS prog w A.in1 J fp wr G n P St)(bt:Nat→Nat→Bool)(cm:CmpOf prog w A.in1 .Gt P bt)(B:Addr)(nB:B∉fp):∀(k j:Nat) (s:Shared) (vb:Value) (c:Nat),n-(j+1)=k→j+1≤n→St (j+1) s→P (argBest bt j) vb→s.heap.get? B=some (AD #[vb,vb] c)→
 (∀v s',P (argBest bt (n-1)) v→Moved (B::wr) G s s'→R (.ok (.ret v)) s')→codeAny (model prog w) A (.builtin "max.loop" ⟨[.ref J, .none, .ref B],[(Str.ofString "default",dv)]⟩) R s:=by
 have nW:B∉wr:=fun q=>nB (W.sub _ q)
 have up:∀b∈wr,b∈B::wr:=fun b q=>List.mem_cons_of_mem _ q
 have nE:∀{b:Addr},b∉B::wr→B≠b:=fun q z=>q (by rw[z];exact List.mem_cons_self)
 intro k
 induction k with
 |zero=>
  intro j s vb c hk hj st pb eB q
  have ej:j+1=n:=by omega
  refine codeAny_builtin F.entry_max_loop ?_
  rw[Around.under_plainId F.plain_max_loop _]
  show wpAny (model prog w) A.in1 (seqItems? (.ref B)>>=_) _ _ s
  refine wpAny_bind (wpAny_seqItems eB rfl ?_)
  show wpAny (model prog w) A.in1 (tryCatch (pyNext (.ref J)) _>>=_) _ _ s
  refine wpAny_bind (wpAny_tryCatch (W.done s _ _ (ej▸st) fun s1 m=> ?_))
  have eB1:=m.heap B _ nW eB
  show wpAny (model prog w) A.in1 (updateSeq B (fun _=> #[])>>=_) _ _ _
  refine wpAny_bind (wpAny_updateSeq eB1 rfl (wpAny_bind (wpAny_letGo (wpAny_pure ?_))))
  exact q vb _ (by rw[←ej];exact pb) ((m.mono up).then_heap (tk:=s1.toks) (Nat.le_refl _) fun b o hb e=>(Heap.get?_update_other _ _ (nE hb)).trans e)
 |succ k ih=>
  intro j s vb c hk hj st pb eB q
  have lt:j+1<n:=by omega
  refine codeAny_builtin F.entry_max_loop ?_
  rw[Around.under_plainId F.plain_max_loop _]
  show wpAny (model prog w) A.in1 (seqItems? (.ref B)>>=_) _ _ s
  refine wpAny_bind (wpAny_seqItems eB rfl ?_)
  show wpAny (model prog w) A.in1 (tryCatch (pyNext (.ref J)) _>>=_) _ _ s
  refine wpAny_bind (wpAny_tryCatch (W.item (j+1) s _ _ lt st fun v s1 pv st1 m=> ?_))
  have eB1:=m.heap B _ nW eB
  show wpAny (model prog w) A.in1 (tryCatch (holding [v,v] (richCompare .Gt v vb>>=_)) _>>=_) _ _ _
  refine wpAny_bind (wpAny_tryCatch (wpAny_holding (wpAny_bind (cm (j+1) (argBest bt j) v vb _ _ _ pv pb (wpAny_bind (wpAny_holding (wpAny_truthy_bool (wpAny_bind (wpAny_letGo (wpAny_pure ?_))))))))))
  cases hb:bt (j+1) (argBest bt j) with
  |true=>
   simp only[if_true]
   refine wpAny_bind (wpAny_updateSeq eB1 rfl (wpAny_bind (wpAny_letGo ?_)))
   rw[jG]
   refine wpAny_pure ⟨plainId_quiet F.plain_max_loop _,ih (j+1) _ v _ (by omega) lt (W.frame _ s1 _ s1.toks st1 (Nat.le_refl _) fun b hf o e=> ?_) (by simp only[argBest,hb,if_true];exact pv) (Heap.get?_update_self _ eB1 rfl) fun v2 s2 p2 m2=> ?_⟩
   · exact(Heap.get?_update_other _ _ (fun z:B=b=>nB (by rw[z];exact hf))).trans e
   · exact q v2 s2 p2 (Moved.trans W.gtrans ((m.mono up).then_heap (Nat.le_refl _) fun b o hb e=>(Heap.get?_update_other _ _ (nE hb)).trans e) m2)
  |false=>
   simp only[if_false,Bool.false_eq_true]
   refine wpAny_bind (wpAny_letGo ?_)
   rw[jG]
   exact wpAny_pure ⟨plainId_quiet F.plain_max_loop _,ih (j+1) _ vb c (by omega) lt st1 (by simp only[argBest,hb,if_false,Bool.false_eq_true];exact pb) eB1 fun v2 s2 p2 m2=>q v2 s2 p2 (Moved.trans W.gtrans (m.mono up) m2)⟩
theorem ub{dv:Value}(W:WalksS prog w A.in1 J fp wr G n P St)(bt:Nat→Nat→Bool)(cm:CmpOf prog w A.in1 .Gt P bt)(B:Addr)(nB:B∉fp)(hn:0<n){s:Shared}{c:Nat}(st:St 0 s)(eB:s.heap.get? B=some (AD #[] c))
 (q:∀v s',P (argBest bt (n-1)) v→Moved (B::wr) G s s'→R (.ok (.ret v)) s'):codeAny (model prog w) A (.builtin "max.loop" ⟨[.ref J, .none, .ref B],[(Str.ofString "default",dv)]⟩) R s:=by
 have nW:B∉wr:=fun q=>nB (W.sub _ q)
 have up:∀b∈wr,b∈B::wr:=fun b q=>List.mem_cons_of_mem _ q
 have nE:∀{b:Addr},b∉B::wr→B≠b:=fun q z=>q (by rw[z];exact List.mem_cons_self)
 refine codeAny_builtin F.entry_max_loop ?_
 rw[Around.under_plainId F.plain_max_loop _]
 show wpAny (model prog w) A.in1 (seqItems? (.ref B)>>=_) _ _ s
 refine wpAny_bind (wpAny_seqItems eB rfl ?_)
 show wpAny (model prog w) A.in1 (tryCatch (pyNext (.ref J)) _>>=_) _ _ s
 refine wpAny_bind (wpAny_tryCatch (W.item 0 s _ _ hn st fun v s1 pv st1 m=> ?_))
 have eB1:=m.heap B _ nW eB
 show wpAny (model prog w) A.in1 (updateSeq B (fun _=> #[v,v])>>=_) _ _ _
 refine wpAny_bind (wpAny_updateSeq eB1 rfl ?_)
 rw[jG]
 refine wpAny_pure ⟨plainId_quiet F.plain_max_loop _,vq W bt cm B nB _ 0 _ v _ rfl hn (W.frame _ s1 _ s1.toks st1 (Nat.le_refl _) fun b hf o e=> ?_) pv (Heap.get?_update_self _ eB1 rfl) fun v2 s2 p2 m2=> ?_⟩
 · exact(Heap.get?_update_other _ _ (fun z:B=b=>nB (by rw[z];exact hf))).trans e
 · exact q v2 s2 p2 (Moved.trans W.gtrans ((m.mono up).then_heap (Nat.le_refl _) fun b o hb e=>(Heap.get?_update_other _ _ (nE hb)).trans e) m2)
end
def mxL:Int→List Int→Int
 |b,[]=>b
 |b,x::r=>mxL (if x>b then x else b) r
section
variable{prog:Program}{w:World}{A:Around}{E:Value→Shared→Prop}{s:Shared}
theorem jH(val:Nat→Int):∀k:Nat,val (argBest (fun i j=>decide (val i>val j)) k)=mxL (val 0) (((List.range k).map fun i=>val (i+1)))
 |0=>rfl
 |k+1=>by
  have ap:∀(b:Int) (r:List Int) (x:Int),mxL b (r++[x])=if x>mxL b r then x else mxL b r:=fun b r x=>by
   induction r generalizing b with
   |nil=>rfl
   |cons y r ih=>exact ih _
  rw[List.range_succ,List.map_append,List.map_cons,List.map_nil,ap,←jH val k,argBest]
  by_cases h:val (k+1)>val (argBest (fun i j=>decide (val i>val j)) k)
  · rw[if_pos h,if_pos (decide_eq_true h)]
  · rw[if_neg h,if_neg (fun z=>h (of_decide_eq_true z))]
theorem vt{l:Addr}{ys:Array (Int×Tok)}{dv:Value}{Q:Value→Shared→Prop}(hh:A.handled=none)(hl:s.heap.IsList l (intItems ys))(hne:0<ys.size)
 (q:∀h' tk t,(∀b x,s.heap.get? b=some x→h'.get? b=some x)→Q (.int (numAt ys (argBest (fun i j=>decide (numAt ys i>numAt ys j)) (ys.size-1))) t) {s with heap:=h',toks:=tk}):
 wpAny (model prog w) A (call (.builtin "max") [.ref l] [(Str.ofString "default",dv)]) Q E s:=by
 have ll:l<s.heap.objs.size:=by obtain⟨o,e,_⟩:=id hl;exact Heap.lt_size e
 refine kmk_tree F.kind_max F.plain_max F.entry_max (vp _ _) ?_
 show wpAny (model prog w) A.in1 (Builtin.Builtins.bindParams "max" ["key","default"] 0 ⟨[],[(Str.ofString "default",dv)]⟩>>=_) _ _ s
 refine wpAny_bind (wpAny_of_eq (show Builtin.Builtins.bindParams "max" ["key","default"] 0 ⟨[],[(Str.ofString "default",dv)]⟩=pure [none,some dv] from rfl) ?_)
 refine wpAny_bind (wpAny_pure (wpAny_bind (wpAny_pyIter_list hl (wpAny_bind (wpAny_newList ?_ (Nat.zero_le _))))))
 rw[jG]
 refine wpAny_pure ⟨plainId_quiet F.plain_max_loop _, ?_⟩
 have lJ:l≠s.heap.objs.size:=Nat.ne_of_lt ll
 have sz:(s.heap.push {cls:= .type "list_iterator",data:= .fields #[.ref l, .int 0 0]}).objs.size=s.heap.objs.size+1:=Heap.size_push ..
 refine ub (s:={s with heap:=_}) (Walks.list (A:=A.in1) hh s.heap.objs.size l lJ (intItems ys)).toS _ (CmpOf.ints_gt (numAt ys) fun _ _=>intItems_at) _ ?_ (by simpa [intItems] using hne) ⟨⟨_,Heap.get?_push_of_some _ (Heap.get?_push_size _ rfl),rfl,rfl⟩,(hl.push _).push _⟩ (Heap.get?_push_size _ rfl) fun v s' pv m=> ?_
 · intro z
   rcases List.mem_cons.mp z with z|z
   · exact absurd (z.symm.trans sz) (Nat.ne_of_lt (Nat.lt_succ_self _))
   · exact absurd (show l=s.heap.objs.size+1 from(List.mem_singleton.mp z).symm.trans sz) (Nat.ne_of_lt (Nat.lt_succ_of_lt ll))
 · obtain⟨t,rfl⟩:=intItems_at pv
   obtain⟨h',g',d',t',o'⟩:=s'
   have e1:g'=s.gens:=m.gens
   have e2:d'=s.drawn:=m.drawn
   have e3:o'=s.os:=m.os
   subst e1 e2 e3
   have z:(intItems ys).size=ys.size:=by simp[intItems]
   rw[z]
   refine q h' t' t fun b x e=>m.heap b x (fun hb=> ?_) (Heap.get?_push_of_some _ (Heap.get?_push_of_some _ e))
   have:=Heap.lt_size e
   rcases List.mem_cons.mp hb with hb|hb
   · rw[hb] at this
     exact absurd this (Nat.not_lt.mpr (show s.heap.objs.size≤_ from Nat.le_trans (Nat.le_succ _) (Nat.le_of_eq sz.symm)))
   · rw[List.mem_singleton.mp hb] at this
     exact Nat.lt_irrefl _ this
end
def vv(K:W.Frag):List V→Hp→VK→Prop:=fun xs H Q=>∃l n ns,xs=[.ref l]∧SqL K H l (List.map V.int (n::ns))∧Q (.int (mxL n ns)) H
section
variable{X:Cx}
theorem m6{ys:Array (Int×Tok)}{i:Nat}:numAt ys i=((ys.toList.map (·.1))[i]?).getD 0:=by
 unfold numAt
 rw[List.getElem?_map,Array.getElem?_toList]
theorem qG{n:Int}{ns:List Int}:(List.range ns.length).map (fun i=>(((n::ns)[i+1]?).getD 0:Int))=ns:=by
 refine List.ext_getElem? fun i=> ?_
 rw[List.getElem?_map]
 by_cases h:i<ns.length
 · rw[List.getElem?_eq_getElem (by simpa using h),List.getElem_range,Option.map_some,List.getElem?_cons_succ,List.getElem?_eq_getElem h]
   rfl
 · rw[List.getElem?_eq_none (by simpa using h),List.getElem?_eq_none (by omega)]
   rfl
theorem w6{e ke:Expr}{t:TA}{i:Int}{p kp pos:Pos}(hc:X.calm=true)(hg:Gl X "max")(hm:X.mg "max"=none)(ha:PA X [e] t)(hk:PE X ke (tC (.int i)))(he:starEach [e] X.env=[(false,eval e X.env)]:=by rfl):
 PE X (.Call (.Name "max" p) [e] [⟨some "default",ke,kp⟩] pos) (tCB (vv X.K) t):=by
 intro pins s σ H Q I h
 refine wpAny_Call_Name_kw (io I hg hm mK (callWith_kw (thn (ha pos pins s σ H _ I h) fun us s1 ⟨vs,H1,I1,r1,q1⟩=> ?_) (by rw[he];rfl) (by rw[he];rfl)))
 refine thn ((ww hk yH) pos pins s1 σ H1 (fun zs H2=>zs=[.int i]∧H2=H1) I1 ⟨rfl,rfl⟩) fun ws s2 ⟨zs,H2,I2,rz,e1,e2⟩=> ?_
 subst e1 e2
 obtain⟨l,n,ns,rfl,hS,q⟩:=q1
 obtain⟨u,rfl,ru⟩:=r1.one
 cases ru
 obtain⟨d,rfl,_⟩:=rz.one
 show wpAny (model X.prog X.w) X.A (call (.builtin "max") [.ref l] [(Str.ofString "default",d)]) _ _ s2
 obtain⟨its,rv,pl,hz⟩:=I2.list hS
 have hi:=jZ rv
 obtain⟨ys,hx⟩:=hi.allInts.items
 have hl':s2.heap.IsList l (intItems ys):=hx▸pl.isList
 have e1:n::ns=ys.toList.map (·.1):=by
  rw[←nums_intItems,←hx]
  exact(show numsOf its.toArray.toList=n::ns from hi.numsOf).symm
 have e3:ys.size=ns.length+1:=by
  have:=congrArg List.length e1
  rw[List.length_map,List.length_cons,Array.length_toList] at this
  exact this.symm
 refine vt (I2.ok.hd hc) hl' (by rw[e3];exact Nat.succ_pos _) fun h' tk t' hk=> ?_
 rw[jH (numAt ys),e3,Nat.add_sub_cancel]
 have e4:numAt ys=fun i=>((n::ns)[i]?).getD 0:=by funext i;rw[m6,←e1]
 rw[e4,qG]
 exact⟨.int _,H2,I2.kept hk,⟨_,rfl⟩,q⟩
end
theorem w8:typeLookup (.type "zip") "keys"=pure none:=by rw[typeLookup_type,builtinLookup_eq_fast];kernel_rfl
theorem w9:typeLookup (.type "zip") "__getattr__"=pure none:=by rw[typeLookup_type,builtinLookup_eq_fast];kernel_rfl
theorem AE:entryFor table "zip.__getattribute__"=some Builtin.«object.__getattribute__»:=entryFor_alias (id':="object.__getattribute__") (by kernel_rfl) (by decide+kernel) (by decide+kernel) (by kernel_rfl)
theorem sQ:entryFor table "dict.update.loop"=some Builtin.«dict.update.loop»:=entryFor_of_tree (by kernel_rfl)
theorem ky:plainId "dict.update.loop"=true:=by decide+kernel
theorem vw(z ti to_:Addr)(f0:Value)(u:Tok):Meets (Builtin.«object.__getattribute__» ⟨[.ref z, .str "keys" u],[]⟩) (fun A R s=>IsZip s.heap z ti to_ f0∧raisesAttr (.ref z) "keys" A R s):=
 Meets.of_wp fun prog w A R s hs=>by
  obtain⟨hp,g,d,tk,os⟩:=s
  obtain⟨hx,hs⟩:=hs
  have hT:(⟨hp,g,d,tk,os⟩:Shared).TypeIs (.ref z) "zip":=⟨_,hx,rfl⟩
  have hm:=w8
  delta Builtin.«object.__getattribute__»
  repeat (any_goals (first|assumption|wp_step))
  exact wpAny_raiseAttrError hs.1 hs.2 (attrMsg_fits (by decide+kernel) (by decide+kernel))
theorem xa{prog:Program}{w:World}{A:Around}{E:Value→Shared→Prop}{s:Shared}{z ti to_:Addr}{f0:Value}{Q:Option Value→Shared→Prop}(hx:IsZip s.heap z ti to_ f0)(hA:A.handled=none)
 (k:∀h' tk,(∀b o,s.heap.get? b=some o→h'.get? b=some o)→Q none {s with heap:=h',toks:=tk}):wpAny (model prog w) A (getAttr? (.ref z) "keys") Q E s:=by
 obtain⟨hp,g,d,tk,os⟩:=s
 have hT:∀tk',(⟨hp,g,d,tk',os⟩:Shared).TypeIs (.ref z) "zip":=fun _=>⟨_,hx,rfl⟩
 have f1:=sub_AttributeError
 have f3:=F.slot_zip_getattribute.lookup
 have f4:=F.slot_zip_getattribute.bind (.ref z)
 have f5:=w9
 delta getAttr? getAttrBy?
 repeat (any_goals (first|assumption|exact hT _|((with_reducible show wpAny _ _ (call (Value.builtin "zip.__getattribute__") _ _) _ _ _);refine call_meets F.slot_zip_getattribute (hT _) AE (F.args_zip_getattribute_2 _ _) (vw z ti to_ f0 _) ⟨hx,hA,fun h' tk' e hx'=> ?_⟩)|wp_step))
 obtain⟨t',u',he⟩:=hx'.there
 show wpAny _ _ (getattributeRaised _ _ _ _ _ _ _) _ _ _
 delta getattributeRaised
 repeat (any_goals (first|assumption|wp_step))
 exact k _ _ hx'.keeps
section
variable{prog:Program}{w:World}{A:Around}{E:Value→Shared→Prop}{s:Shared}
abbrev IsZ(h:Heap)(z ti to_:Addr)(f0 f1:Value):Prop:=h.get? z=some {cls:= .type "zip",dict:=none,data:= .fields #[f0,f1, .bool false, .ref ti, .ref to_],slots:= #[]}
structure ZM(h:Heap)(z ti to_ j1 j2 l1 l2:Addr)(i:Nat)(f0 f1 a b:Value)(vs us:Array Value):Prop where
 z:IsZ h z ti to_ f0 f1
 ti:IsPair h ti (.ref j1) (.ref j2)
 to_:IsPair h to_ a b
 j1:h.IsListIter j1 l1 i
 j2:h.IsTupleIter j2 l2 i
 t1:h.IsList l1 vs
 t2:h.IsTuple l2 us
theorem vx{z ti to_ j1 j2 t1 t2:Addr}{i:Nat}{vs us:Array Value}{x y a b:Value}{Q:Value→Shared→Prop}(D:ZipApart z ti to_ j1 j2 t1 t2)(Z:ZM s.heap z ti to_ j1 j2 t1 t2 i .none (.bool false) a b vs us)(ex:vs[i]? =some x)(ey:us[i]? =some y)
 (k:∀h',IsZ h' z ti to_ (rawInt s.heap.objs.size) (.bool false)→IsPair h' to_ x y→h'.IsListIter j1 t1 (i+1)→h'.IsTupleIter j2 t2 (i+1)→IsPair h' s.heap.objs.size x y→
  (∀c o,c≠z→c≠to_→c≠j1→c≠j2→s.heap.get? c=some o→h'.get? c=some o)→Q (.ref s.heap.objs.size) {s with heap:=h'}):
 wpAny (model prog w) A (Builtin.«zip.__next__» ⟨[.ref z],[]⟩) (fun fin s'=>∃v,fin= .done (.ret v)∧Q v s') E s:=by
 show wpAny (model prog w) A (field (.ref z) 2>>=_) _ _ _
 refine wpAny_bind (wpAny_field (x:= .bool false) Z.z rfl rfl ?_)
 show wpAny (model prog w) A (field (.ref z) 3>>=_) _ _ _
 refine wpAny_bind (wpAny_field (x:= .ref ti) Z.z rfl rfl (wpAny_bind (wpAny_seqItems Z.ti rfl ?_)))
 show wpAny (model prog w) A (Builtin.SmallTypes.ownedTupleIsFree (.ref z)>>=_) _ _ _
 refine wpAny_bind ?_
 delta Builtin.SmallTypes.ownedTupleIsFree
 refine wpAny_bind (wpAny_field (x:= .none) Z.z rfl rfl (wpAny_pure ?_))
 simp only[if_true]
 refine wpAny_bind (wpAny_rule (wpAny_bind (wpAny_field (x:= .ref to_) Z.z rfl rfl ?_)))
 refine wpAny_bind (wpAny_setField_rec Z.z (by simp) fun g1 z1 m1=> ?_)
 replace z1:IsZ g1 z ti to_ .ellipsis (.bool false):=z1
 refine wpAny_bind ?_
 simp only[List.forIn_cons,List.forIn_nil,List.zipIdx_cons,List.zipIdx_nil]
 refine wpAny_bind (wpAny_bind (wpAny_onRaise ?_))
 show wpAny (model prog w) A (Builtin.SmallTypes.nextOf (.ref j1)>>=_) _ _ _
 refine wpAny_bind (wpAny_nextOf_list_item (Z.j1.extBut m1.extBut D.i1z) (Z.t1.extBut m1.extBut D.l1z) ex fun g2 k2 m2=>wpAny_pure ?_)
 have o2:IsPair g2 to_ a b:=m2.extBut _ _ D.TOi1 (m1.extBut _ _ D.TOz Z.to_)
 refine wpAny_bind (wpAny_seqItems o2 rfl (wpAny_bind (wpAny_updateSeq_pair o2 fun g3 o3 m3=> ?_)))
 replace o3:IsPair g3 to_ x b:=o3
 refine wpAny_bind (wpAny_letGo (wpAny_pure (wpAny_bind (wpAny_bind (wpAny_onRaise ?_)))))
 show wpAny (model prog w) A (Builtin.SmallTypes.nextOf (.ref j2)>>=_) _ _ _
 refine wpAny_bind (jg (((Z.j2.extBut m1.extBut D.i2z).extBut m2.extBut D.i12.symm).extBut m3.extBut D.TOi2.symm) (((Z.t2.extBut m1.extBut D.l2z).extBut m2.extBut D.l2i1).extBut m3.extBut D.l2TO) ey fun g4 k4 m4=>wpAny_pure ?_)
 have o4:IsPair g4 to_ x b:=m4.extBut _ _ D.TOi2 o3
 refine wpAny_bind (wpAny_seqItems o4 rfl (wpAny_bind (wpAny_updateSeq_pair o4 fun g5 o5 m5=> ?_)))
 replace o5:IsPair g5 to_ x y:=o5
 refine wpAny_bind (wpAny_letGo (wpAny_pure (wpAny_pure (wpAny_bind (wpAny_seqItems o5 rfl (wpAny_bind (wpAny_newTuple ?_)))))))
 have sz:g5.objs.size=s.heap.objs.size:=by rw[m5.1,m4.1,m3.1,m2.1,m1.1]
 have z5:IsZ g5 z ti to_ .ellipsis (.bool false):=m5.extBut _ _ D.TOz.symm (m4.extBut _ _ D.i2z.symm (m3.extBut _ _ D.TOz.symm (m2.extBut _ _ D.i1z.symm z1)))
 have kk:∀c o,c≠z→c≠to_→c≠j1→c≠j2→s.heap.get? c=some o→g5.get? c=some o:=fun c o c1 c2 c3 c4 e=>m5.extBut _ _ c2 (m4.extBut _ _ c4 (m3.extBut _ _ c2 (m2.extBut _ _ c3 (m1.extBut _ _ c1 e))))
 have a5:g5.IsListIter j1 t1 (i+1):=((k2.extBut m3.extBut D.TOi1.symm).extBut m4.extBut D.i12).extBut m5.extBut D.TOi1.symm
 have b5:g5.IsTupleIter j2 t2 (i+1):=k4.extBut m5.extBut D.TOi2.symm
 have lz:z<g5.objs.size:=Heap.lt_size z5
 show wpAny (model prog w) A (Builtin.SmallTypes.ownedTupleHandOut (.ref z) (.ref g5.objs.size)>>=_) _ _ _
 refine wpAny_bind ?_
 delta Builtin.SmallTypes.ownedTupleHandOut
 have z6:IsZ (g5.push {cls:= .type "tuple",data:= .seq #[x,y]}) z ti to_ .ellipsis (.bool false):=Heap.get?_push_of_some _ z5
 refine wpAny_bind (wpAny_setField_rec z6 (by simp) fun g7 z7 m7=> ?_)
 replace z7:IsZ g7 z ti to_ (rawInt g5.objs.size) (.bool false):=z7
 refine wpAny_setField_rec z7 (by simp) fun g8 z8 m8=> ?_
 replace z8:IsZ g8 z ti to_ (rawInt g5.objs.size) (.bool false):=z8
 have up:∀c o,c≠z→g5.get? c=some o→g8.get? c=some o:=fun c o c1 e=>m8.extBut _ _ c1 (m7.extBut _ _ c1 (Heap.get?_push_of_some _ e))
 have n8:IsPair g8 g5.objs.size x y:=m8.extBut _ _ (Nat.ne_of_gt lz) (m7.extBut _ _ (Nat.ne_of_gt lz) (Heap.get?_push_size _ rfl))
 rw[sz] at z8 n8
 refine wpAny_pure ⟨_,rfl, ?_⟩
 show Q (.ref g5.objs.size) _
 rw[sz]
 obtain⟨p1,e1,r1⟩:=a5
 obtain⟨p2,e2,r2⟩:=b5
 exact k g8 z8 (up _ _ D.TOz o5) ⟨p1,up _ _ D.i1z e1,r1⟩ ⟨p2,up _ _ D.i2z e2,r2⟩ n8 fun c o c1 c2 c3 c4 e=>up c o c1 (kk c o c1 c2 c3 c4 e)
theorem AG{a:Addr}{o:Obj}{Q:Option Obj→Shared→Prop}(h:s.heap.get? a=some o)(q:Q (some o) s):wpAny (model prog w) A (loadIfAlive a) Q E s:=fun _ _ _=>by
 show Q (s.heap.get? a) s
 rw[h]
 exact q
theorem sR{z ti to_:Addr}{T:Nat}{f:Bool}{oT:Obj}{Q:Bool→Shared→Prop}(h:IsZ s.heap z ti to_ (rawInt T) (.bool f))(hT:s.heap.get? T=some oT)
 (k:∀h',IsZ h' z ti to_ (rawInt T) (.bool true)→Heap.ExtBut z s.heap h'→h'.objs.size=s.heap.objs.size→Q false {s with heap:=h'}):wpAny (model prog w) A (Builtin.SmallTypes.ownedTupleIsFree (.ref z)) Q E s:=by
 delta Builtin.SmallTypes.ownedTupleIsFree
 refine wpAny_bind (wpAny_field (x:=rawInt T) h rfl rfl ?_)
 show wpAny (model prog w) A (loadIfAlive (Int.toNat (T:Int))>>=_) _ _ s
 refine wpAny_bind (AG (o:=oT) (by rw[Int.toNat_natCast];exact hT) ?_)
 simp only[Option.isNone_some,Bool.false_eq_true,if_false]
 refine wpAny_bind (wpAny_field (x:= .bool f) h rfl rfl ?_)
 cases f with
 |false=>
  show wpAny (model prog w) A (setField (.ref z) 1 (.bool true)>>=_) _ _ s
  exact wpAny_bind (wpAny_setField_rec h (by simp) fun g1 z1 m1=>wpAny_pure (k g1 z1 m1.extBut m1.1))
 |true=>exact wpAny_pure (k s.heap h (fun _ _ _ e=>e) rfl)
theorem xb{z ti to_ j1 j2 t1 t2:Addr}{i T:Nat}{vs us:Array Value}{f:Bool}{x y a b:Value}{oT:Obj}{Q:Value→Shared→Prop}(D:ZipApart z ti to_ j1 j2 t1 t2)(Z:ZM s.heap z ti to_ j1 j2 t1 t2 i (rawInt T) (.bool f) a b vs us)(hT:s.heap.get? T=some oT)(ex:vs[i]? =some x)(ey:us[i]? =some y)
 (k:∀h' p,IsZ h' z ti to_ (rawInt T) (.bool true)→h'.IsListIter j1 t1 (i+1)→h'.IsTupleIter j2 t2 (i+1)→IsPair h' p x y→s.heap.objs.size≤p→
  (∀c o,c≠z→c≠j1→c≠j2→s.heap.get? c=some o→h'.get? c=some o)→Q (.ref p) {s with heap:=h'}):
 wpAny (model prog w) A (Builtin.«zip.__next__» ⟨[.ref z],[]⟩) (fun fin s'=>∃v,fin= .done (.ret v)∧Q v s') E s:=by
 show wpAny (model prog w) A (field (.ref z) 2>>=_) _ _ _
 refine wpAny_bind (wpAny_field (x:= .bool false) Z.z rfl rfl ?_)
 show wpAny (model prog w) A (field (.ref z) 3>>=_) _ _ _
 refine wpAny_bind (wpAny_field (x:= .ref ti) Z.z rfl rfl (wpAny_bind (wpAny_seqItems Z.ti rfl ?_)))
 show wpAny (model prog w) A (Builtin.SmallTypes.ownedTupleIsFree (.ref z)>>=_) _ _ _
 refine wpAny_bind (sR Z.z hT fun g1 z1 m1 s1=> ?_)
 simp only[Bool.false_eq_true,if_false]
 refine wpAny_bind ?_
 rw[←Array.forIn_toList]
 simp only[List.forIn_cons,List.forIn_nil]
 refine wpAny_bind (wpAny_bind (wpAny_holding ?_))
 show wpAny (model prog w) A (Builtin.SmallTypes.nextOf (.ref j1)>>=_) _ _ _
 refine wpAny_bind (wpAny_nextOf_list_item (Z.j1.extBut m1 D.i1z) (Z.t1.extBut m1 D.l1z) ex fun g2 k2 m2=>wpAny_pure (wpAny_pure (wpAny_bind (wpAny_bind (wpAny_holding ?_)))))
 show wpAny (model prog w) A (Builtin.SmallTypes.nextOf (.ref j2)>>=_) _ _ _
 refine wpAny_bind (jg ((Z.j2.extBut m1 D.i2z).extBut m2.extBut D.i12.symm) ((Z.t2.extBut m1 D.l2z).extBut m2.extBut D.l2i1) ey fun g3 k3 m3=>wpAny_pure (wpAny_pure (wpAny_pure ?_)))
 show wpAny (model prog w) A (newTuple [x,y]>>=_) _ _ _
 refine wpAny_bind (wpAny_newTuple (wpAny_pure ⟨_,rfl, ?_⟩))
 have sz:g3.objs.size=s.heap.objs.size:=by rw[m3.1,m2.1,s1]
 have up:∀c o,c≠j1→c≠j2→g1.get? c=some o→(g3.push {cls:= .type "tuple",data:= .seq #[x,y]}).get? c=some o:=fun c o c1 c2 e=>Heap.get?_push_of_some _ (m3.extBut _ _ c2 (m2.extBut _ _ c1 e))
 obtain⟨p1,e1,r1⟩:=k2
 obtain⟨p2,e2,r2⟩:=k3
 exact k _ g3.objs.size (up _ _ D.i1z.symm D.i2z.symm z1) ⟨p1,Heap.get?_push_of_some _ (m3.extBut _ _ D.i12 e1),r1⟩ ⟨p2,Heap.get?_push_of_some _ e2,r2⟩ (Heap.get?_push_size _ rfl) (Nat.le_of_eq sz.symm) fun c o c1 c2 c3 e=>up c o c2 c3 (m1 _ _ c1 e)
theorem zr{z ti to_ j1 j2 t1 t2:Addr}{i T:Nat}{vs us:Array Value}{f:Bool}{a b:Value}{oT:Obj}{Q:Fin→Shared→Prop}(hA:A.handled=none)(D:ZipApart z ti to_ j1 j2 t1 t2)(Z:ZM s.heap z ti to_ j1 j2 t1 t2 i (rawInt T) (.bool f) a b vs us)(hT:s.heap.get? T=some oT)(en:vs[i]? =none)
 (k:∀h' e,(∀c o,c≠z→c≠j1→s.heap.get? c=some o→h'.get? c=some o)→(∃o,h'.get? e=some o∧o.cls= .type "StopIteration")→E (.ref e) {s with heap:=h'}):
 wpAny (model prog w) A (Builtin.«zip.__next__» ⟨[.ref z],[]⟩) Q E s:=by
 show wpAny (model prog w) A (field (.ref z) 2>>=_) _ _ _
 refine wpAny_bind (wpAny_field (x:= .bool false) Z.z rfl rfl ?_)
 show wpAny (model prog w) A (field (.ref z) 3>>=_) _ _ _
 refine wpAny_bind (wpAny_field (x:= .ref ti) Z.z rfl rfl (wpAny_bind (wpAny_seqItems Z.ti rfl ?_)))
 show wpAny (model prog w) A (Builtin.SmallTypes.ownedTupleIsFree (.ref z)>>=_) _ _ _
 refine wpAny_bind (sR Z.z hT fun g1 z1 m1 s1=> ?_)
 simp only[Bool.false_eq_true,if_false]
 refine wpAny_bind ?_
 rw[←Array.forIn_toList]
 simp only[List.forIn_cons,List.forIn_nil]
 refine wpAny_bind (wpAny_bind (wpAny_holding ?_))
 show wpAny (model prog w) A (Builtin.SmallTypes.nextOf (.ref j1)>>=_) _ _ _
 exact wpAny_bind (wpAny_nextOf_list_end hA (Z.j1.extBut m1 D.i1z) (Z.t1.extBut m1 D.l1z) en fun g2 e m2 he=>k g2 e (fun c o c1 c2 q=>m2 _ _ c2 (m1 _ _ c1 q)) he)
theorem xc{z ti to_ j1 j2 t1 t2:Addr}{i T:Nat}{vs us:Array Value}{f:Bool}{x y a b:Value}{oT:Obj}{Q:Option Value→Shared→Prop}(D:ZipApart z ti to_ j1 j2 t1 t2)(Z:ZM s.heap z ti to_ j1 j2 t1 t2 i (rawInt T) (.bool f) a b vs us)(hT:s.heap.get? T=some oT)(ex:vs[i]? =some x)(ey:us[i]? =some y)
 (k:∀h' p,IsZ h' z ti to_ (rawInt T) (.bool true)→h'.IsListIter j1 t1 (i+1)→h'.IsTupleIter j2 t2 (i+1)→IsPair h' p x y→s.heap.objs.size≤p→
  (∀c o,c≠z→c≠j1→c≠j2→s.heap.get? c=some o→h'.get? c=some o)→Q (some (.ref p)) {s with heap:=h'}):wpAny (model prog w) A (pyNext (.ref z)) Q E s:=by
 have ty:s.TypeIs (.ref z) "zip":=⟨_,Z.z,rfl⟩
 delta pyNext
 exact wpAny_bind (wpAny_attempt (wpAny_callSpecial?_slot (name:="__next__") ty F.slot_zip_next (wpAny_call_entry F.slot_zip_next ty F.entry_zip_next (xb D Z hT ex ey fun h' p a1 a2 a3 a4 a5 a6=>wpAny_pure (k h' p a1 a2 a3 a4 a5 a6)) (F.args_zip_next_1 _))))
theorem vy{z ti to_ j1 j2 t1 t2:Addr}{i:Nat}{vs us:Array Value}{x y a b:Value}{Q:Option Value→Shared→Prop}(D:ZipApart z ti to_ j1 j2 t1 t2)(Z:ZM s.heap z ti to_ j1 j2 t1 t2 i .none (.bool false) a b vs us)(ex:vs[i]? =some x)(ey:us[i]? =some y)
 (k:∀h',IsZ h' z ti to_ (rawInt s.heap.objs.size) (.bool false)→IsPair h' to_ x y→h'.IsListIter j1 t1 (i+1)→h'.IsTupleIter j2 t2 (i+1)→IsPair h' s.heap.objs.size x y→
  (∀c o,c≠z→c≠to_→c≠j1→c≠j2→s.heap.get? c=some o→h'.get? c=some o)→Q (some (.ref s.heap.objs.size)) {s with heap:=h'}):wpAny (model prog w) A (pyNext (.ref z)) Q E s:=by
 have ty:s.TypeIs (.ref z) "zip":=⟨_,Z.z,rfl⟩
 delta pyNext
 exact wpAny_bind (wpAny_attempt (wpAny_callSpecial?_slot (name:="__next__") ty F.slot_zip_next (wpAny_call_entry F.slot_zip_next ty F.entry_zip_next (vx D Z ex ey fun h' a1 a2 a3 a4 a5 a6=>wpAny_pure (k h' a1 a2 a3 a4 a5 a6)) (F.args_zip_next_1 _))))
theorem xf{z ti to_ j1 j2 t1 t2:Addr}{i T:Nat}{vs us:Array Value}{f:Bool}{a b:Value}{oT:Obj}{Q:Option Value→Shared→Prop}(hA:A.handled=none)(D:ZipApart z ti to_ j1 j2 t1 t2)(Z:ZM s.heap z ti to_ j1 j2 t1 t2 i (rawInt T) (.bool f) a b vs us)(hT:s.heap.get? T=some oT)(en:vs[i]? =none)
 (k:∀h',(∀c o,c≠z→c≠j1→s.heap.get? c=some o→h'.get? c=some o)→Q none {s with heap:=h'}):wpAny (model prog w) A (pyNext (.ref z)) Q E s:=by
 have ty:s.TypeIs (.ref z) "zip":=⟨_,Z.z,rfl⟩
 delta pyNext
 refine wpAny_bind (wpAny_attempt (wpAny_callSpecial?_slot (name:="__next__") ty F.slot_zip_next (wpAny_call_entry F.slot_zip_next ty F.entry_zip_next (zr hA D Z hT en fun h' e kk he=> ?_) (F.args_zip_next_1 _))))
 obtain⟨oe,ee,ce⟩:=he
 exact wpAny_bind (wpAny_isInstance (T:="StopIteration") (b:=true) ⟨oe,ee,ce⟩ isSubtype_stop (wpAny_pure (k _ kk)))
def ZS(h:Heap)(d z ti to_ j1 j2 l1 l2:Addr)(i:Nat)(vs us:Array Value):Prop:=(i=0∧∃a b,ZM h z ti to_ j1 j2 l1 l2 i .none (.bool false) a b vs us)∨∃(T:Nat) (f:Bool) (a b:Value) (o:Obj),ZM h z ti to_ j1 j2 l1 l2 i (rawInt T) (.bool f) a b vs us∧h.get? T=some o∧T≠d∧T≠z∧T≠j1∧T≠j2
theorem ZM.on{h h':Heap}{d z ti to_ j1 j2 l1 l2:Addr}{i:Nat}{f0 f1 a b:Value}{vs us:Array Value}(Z:ZM h z ti to_ j1 j2 l1 l2 i f0 f1 a b vs us)(nd:d∉[z,ti,to_,j1,j2,l1,l2])(k:∀c o,c≠d→h.get? c=some o→h'.get? c=some o):ZM h' z ti to_ j1 j2 l1 l2 i f0 f1 a b vs us:=by
 simp only[List.mem_cons,List.not_mem_nil,or_false,not_or] at nd
 obtain⟨dz,dti,dto,dj1,dj2,dl1,dl2⟩:=nd
 obtain⟨z,ti,t,⟨p1,x1,r1⟩,⟨p2,x2,r2⟩,⟨p3,x3,r3⟩,⟨p4,x4,r4⟩⟩:=Z
 exact⟨k _ _ (Ne.symm dz) z,k _ _ (Ne.symm dti) ti,k _ _ (Ne.symm dto) t,⟨p1,k _ _ (Ne.symm dj1) x1,r1⟩,⟨p2,k _ _ (Ne.symm dj2) x2,r2⟩,⟨p3,k _ _ (Ne.symm dl1) x3,r3⟩,⟨p4,k _ _ (Ne.symm dl2) x4,r4⟩⟩
theorem xg{d z ti to_ j1 j2 l1 l2:Addr}{i:Nat}{vs us:Array Value}{x y:Value}{od:Obj}{Q:Option Value→Shared→Prop}(D:ZipApart z ti to_ j1 j2 l1 l2)(Z:ZS s.heap d z ti to_ j1 j2 l1 l2 i vs us)(hd:s.heap.get? d=some od)(ex:vs[i]? =some x)(ey:us[i]? =some y)
 (k:∀h' p,ZS h' d z ti to_ j1 j2 l1 l2 (i+1) vs us→IsPair h' p x y→s.heap.objs.size≤p→(∀c o,c≠z→c≠to_→c≠j1→c≠j2→s.heap.get? c=some o→h'.get? c=some o)→Q (some (.ref p)) {s with heap:=h'}):wpAny (model prog w) A (pyNext (.ref z)) Q E s:=by
 rcases Z with⟨_,a,b,Z⟩|⟨T,f,a,b,oT,Z,hT,Td,Tz,T1,T2⟩
 · refine vy D Z ex ey fun h' a1 a2 a3 a4 a5 a6=>k h' _ (.inr ⟨s.heap.objs.size,false,x,y,_,⟨a1,a6 _ _ D.TIz D.TITO D.TIi1 D.TIi2 Z.ti,a2,a3,a4, ?_, ?_⟩,a5, ?_⟩) a5 (Nat.le_refl _) a6
   · obtain⟨p,e,r⟩:=Z.t1
     exact⟨p,a6 _ _ D.l1z D.l1TO D.l1i1 D.l1i2 e,r⟩
   · obtain⟨p,e,r⟩:=Z.t2
     exact⟨p,a6 _ _ D.l2z D.l2TO D.l2i1 D.l2i2 e,r⟩
   · obtain⟨p1,e1,_⟩:=Z.j1
     obtain⟨p2,e2,_⟩:=Z.j2
     exact⟨Nat.ne_of_gt (Heap.lt_size hd),Nat.ne_of_gt (Heap.lt_size Z.z),Nat.ne_of_gt (Heap.lt_size e1),Nat.ne_of_gt (Heap.lt_size e2)⟩
 · refine xc D Z hT ex ey fun h' p a1 a2 a3 a4 a5 a6=>k h' p (.inr ⟨T,true,a,b,oT,⟨a1,a6 _ _ D.TIz D.TIi1 D.TIi2 Z.ti,a6 _ _ D.TOz D.TOi1 D.TOi2 Z.to_,a2,a3, ?_, ?_⟩,a6 _ _ Tz T1 T2 hT,Td,Tz,T1,T2⟩) a4 a5 fun c o c1 _ c3 c4 e=>a6 c o c1 c3 c4 e
   · obtain⟨p,e,r⟩:=Z.t1
     exact⟨p,a6 _ _ D.l1z D.l1i1 D.l1i2 e,r⟩
   · obtain⟨p,e,r⟩:=Z.t2
     exact⟨p,a6 _ _ D.l2z D.l2i1 D.l2i2 e,r⟩
theorem xh{K:Type}[DecidableEq K]{knd:KeyKind prog w K}{R:Result→Shared→Prop}{d z ti to_ j1 j2 l1 l2:Addr}{vs us:Array Value}{ks:List K}(hA:A.handled=none)(D:ZipApart z ti to_ j1 j2 l1 l2)(nd:d∉[z,ti,to_,j1,j2,l1,l2])
 (e1:vs.size=ks.length)(e2:us.size=ks.length)(hk:∀(i:Nat) (k:K) (x:Value),ks[i]? =some k→vs[i]? =some x→knd.is k x=true)(hn:ks.Nodup)(h0:0<ks.length)(hz:ks.length≤sizeLine):
 ∀(n i:Nat) (s:Shared) (m:Int),ks.length-i=n→i≤ks.length→ZS s.heap d z ti to_ j1 j2 l1 l2 i vs us→s.heap.DictOf knd d ((ks.zip us.toList).take i)→
  (∀h' tk,h'.DictOf knd d (ks.zip us.toList)→(∀c o,c≠d→c≠z→c≠to_→c≠j1→c≠j2→s.heap.get? c=some o→h'.get? c=some o)→R (.ok (.ret .none)) {s with heap:=h',toks:=tk})→
  codeAny (model prog w) A (.builtin "dict.update.loop" ⟨[.ref d, .ref z,rawInt m, .none],[]⟩) R s:=by
 have ul:us.toList.length=ks.length:=by rw[←e2];exact Array.length_toList
 have zl:(ks.zip us.toList).length=ks.length:=by rw[List.length_zip,ul,Nat.min_self]
 have nd0:=nd
 simp only[List.mem_cons,List.not_mem_nil,or_false,not_or] at nd
 obtain⟨dz,dti,dto,dj1,dj2,dl1,dl2⟩:=nd
 intro n
 induction n with
 |zero=>
  intro i s m hi hl Z hd q
  have ei:i=ks.length:=by omega
  rcases Z with⟨z0,_⟩|⟨T,f,a,b,oT,Z,hT,_⟩
  · omega
  refine codeAny_builtin sQ ?_
  rw[Around.under_plainId ky _]
  show wpAny (model prog w) A.in1 (pyNext (.ref z)>>=_) _ _ s
  refine wpAny_bind (xf hA D Z hT (Array.getElem?_eq_none (by omega)) fun h' kk=> ?_)
  refine wpAny_bind (wpAny_pure (wpAny_pure ?_))
  rw[List.take_of_length_le (by omega)] at hd
  obtain⟨o,es,ep,ho,r⟩:=hd
  exact q h' s.toks ⟨o,es,ep,kk _ _ dz dj1 ho,r⟩ fun c o _ c2 _ c3 _ e=>kk c o c2 c3 e
 |succ n ih=>
  intro i s m hi hl Z hd q
  have lt:i<ks.length:=by omega
  have ex:vs[i]? =some vs[i]:=Array.getElem?_eq_getElem (by omega)
  have ey:us[i]? =some us[i]:=Array.getElem?_eq_getElem (by omega)
  have hd1:=hd
  obtain⟨od,es,ep,ho,r⟩:=hd1
  refine codeAny_builtin sQ ?_
  rw[Around.under_plainId ky _]
  show wpAny (model prog w) A.in1 (pyNext (.ref z)>>=_) _ _ s
  refine wpAny_bind (xg D Z ho ex ey fun h1 p a1 a4 a5 a6=> ?_)
  show wpAny (model prog w) A.in1 (holding [.ref p] _>>=_) _ _ _
  refine wpAny_bind (wpAny_holding (wpAny_bind (wpAny_tryCatch ?_)))
  delta Builtin.Dict.pairItems
  refine wpAny_bind (wpAny_typeOf (T:="tuple") ⟨_,a4,rfl⟩ ?_)
  show wpAny (model prog w) A.in1 (seqItems? (.ref p)>>=_) _ _ _
  refine wpAny_bind (wpAny_seqItems a4 rfl (wpAny_pure ?_))
  show wpAny (model prog w) A.in1 (holding [vs[i],us[i]] (dictSet d vs[i] us[i])) _ _ _
  have pd:p≠d:=fun e=>by rw[e] at a5;exact absurd (Heap.lt_size ho) (Nat.not_lt.mpr a5)
  refine wpAny_holding (wpAny_dictSet_pairs (s:={s with heap:=h1}) (k:=ks[i]) (hk i _ _ (List.getElem?_eq_getElem lt) ex) ⟨od,es,ep,a6 _ _ dz dto dj1 dj2 ho,r⟩ (fun h2 hd2 hs2=>wpAny_pure ⟨plainId_quiet ky _,ih (i+1) _ _ (by omega) lt ?_ ?_ fun h3 tk hd3 k3=> ?_⟩) ?_)
  · have kp:∀c o,c≠d→h1.get? c=some o→h2.get? c=some o:=fun c o c1 e=>hs2.extBut _ _ c1 e
    rcases a1 with⟨z0,_⟩|⟨T,f,a,b,oT,Z1,hT,Td,Tz,T1,T2⟩
    · omega
    · exact .inr ⟨T,f,a,b,oT,Z1.on nd0 kp,kp _ _ Td hT,Td,Tz,T1,T2⟩
  · have ez:(ks.zip us.toList)[i]? =some (ks[i],us[i]):=by
     rw[List.getElem?_zip_eq_some]
     exact⟨List.getElem?_eq_getElem lt,by rw[Array.getElem?_toList];exact ey⟩
    have nw:¬(((ks.zip us.toList).take i).any fun kv=>decide (kv.1=ks[i]))=true:=by
     rw[List.any_eq_true]
     rintro⟨kv,hm,he⟩
     obtain⟨j,hj,hjm⟩:=List.getElem_of_mem hm
     have hj':j<i:=by rw[List.length_take] at hj;omega
     have q1:((ks.zip us.toList).take i)[j]? =some kv:=by rw[List.getElem?_eq_getElem hj,hjm]
     rw[List.getElem?_take_of_lt hj'] at q1
     have q2:=(List.getElem?_zip_eq_some.mp q1).1
     obtain⟨hjk,q3⟩:=List.getElem?_eq_some_iff.mp q2
     have:=(List.pairwise_iff_getElem.mp hn) j i hjk lt hj'
     rw[q3,of_decide_eq_true he] at this
     exact this rfl
    have e:(ks.zip us.toList).take (i+1)=stored ((ks.zip us.toList).take i) ks[i] us[i]:=by
     unfold stored
     rw[if_neg nw,List.take_add_one,ez]
     rfl
    rw[e]
    exact hd2
  · exact q h3 tk hd3 fun c o c1 c2 c3 c4 c5 e=>k3 c o c1 c2 c3 c4 c5 (hs2.extBut _ _ c1 (a6 c o c2 c3 c4 c5 e))
  · rw[List.length_take]
    omega
end
abbrev mz1(h:Heap)(t1:Addr):Heap:=h.push {cls:= .type "list_iterator",data:= .fields #[.ref t1, .int 0 0]}
abbrev mz2(h:Heap)(t1 t2:Addr):Heap:=(mz1 h t1).push {cls:= .type "tuple_iterator",data:= .fields #[.ref t2, .int 0 0]}
abbrev mz3(h:Heap)(t1 t2:Addr):Heap:=(mz2 h t1 t2).push {cls:= .type "tuple",data:= .seq #[.ref h.objs.size, .ref (mz1 h t1).objs.size]}
abbrev mz4(h:Heap)(t1 t2:Addr):Heap:=(mz3 h t1 t2).push {cls:= .type "tuple",data:= .seq #[.none, .none]}
abbrev mz5(h:Heap)(t1 t2:Addr):Heap:=(mz4 h t1 t2).push {cls:= .type "zip",data:= .fields #[.none, .bool false, .bool false, .ref (mz2 h t1 t2).objs.size, .ref (mz3 h t1 t2).objs.size]}
theorem zt(t1 t2:Addr)(vs us:Array Value):Meets (Builtin.«zip.__new__» ⟨[.type "zip", .ref t1, .ref t2],[]⟩) (fun _ R s=>s.heap.IsList t1 vs∧s.heap.IsTuple t2 us∧R (.ok (.ret (.ref (mz4 s.heap t1 t2).objs.size))) {s with heap:=mz5 s.heap t1 t2}):=
 .of_wp fun prog w A R s h=>by
  obtain⟨hp,g,d,tk,os⟩:=s
  obtain⟨e1,e2,h⟩:=h
  have sub:=sub_zip
  have k1:Heap.IsList (Shared.heap ⟨hp,g,d,tk,os⟩) t1 vs:=e1
  have k2:Heap.IsTuple (Shared.heap ⟨hp.push {cls:= .type "list_iterator",data:= .fields #[.ref t1, .int 0 0]},g,d,tk,os⟩) t2 us:=Heap.IsTuple.push e2 _
  wp_walk using wpAny_pyIter_list k1,wpAny_pyIter_tuple k2
  exact⟨_,rfl,h⟩
section
variable{prog:Program}{w:World}{A:Around}{E:Value→Shared→Prop}{s:Shared}
theorem xi{t1 t2:Addr}{vs us:Array Value}{Q:Value→Shared→Prop}(e1:s.heap.IsList t1 vs)(e2:s.heap.IsTuple t2 us)
 (k:∀h',ZM h' (s.heap.objs.size+4) (s.heap.objs.size+2) (s.heap.objs.size+3) s.heap.objs.size (s.heap.objs.size+1) t1 t2 0 .none (.bool false) .none .none vs us→h'.objs.size=s.heap.objs.size+5→(∀c o,s.heap.get? c=some o→h'.get? c=some o)→Q (.ref (s.heap.objs.size+4)) {s with heap:=h'}):
 wpAny (model prog w) A (call (.type "zip") [.ref t1, .ref t2]) Q E s:=by
 refine callType_new F.called_zip (by decide) (F.typeCall_zip_2 _ _) (F.newCall_zip_2 _ _) (fun o=>F.args_object_init_3 o _ _) F.entry_zip_new (zt t1 t2 vs us) ⟨e1,e2, ?_⟩
 have z1:(mz1 s.heap t1).objs.size=s.heap.objs.size+1:=Heap.size_push ..
 have z2:(mz2 s.heap t1 t2).objs.size=s.heap.objs.size+2:=by rw[Heap.size_push,z1]
 have z3:(mz3 s.heap t1 t2).objs.size=s.heap.objs.size+3:=by rw[Heap.size_push,z2]
 have z4:(mz4 s.heap t1 t2).objs.size=s.heap.objs.size+4:=by rw[Heap.size_push,z3]
 have z5:(mz5 s.heap t1 t2).objs.size=s.heap.objs.size+5:=by rw[Heap.size_push,z4]
 have up:∀c o,s.heap.get? c=some o→(mz5 s.heap t1 t2).get? c=some o:=fun c o e=>Heap.get?_push_of_some _ (Heap.get?_push_of_some _ (Heap.get?_push_of_some _ (Heap.get?_push_of_some _ (Heap.get?_push_of_some _ e))))
 have g5:(mz5 s.heap t1 t2).get? (mz4 s.heap t1 t2).objs.size=some _:=Heap.get?_push_size _ rfl
 have g4:(mz5 s.heap t1 t2).get? (mz3 s.heap t1 t2).objs.size=some _:=Heap.get?_push_of_some _ (Heap.get?_push_size _ rfl)
 have g3:(mz5 s.heap t1 t2).get? (mz2 s.heap t1 t2).objs.size=some _:=Heap.get?_push_of_some _ (Heap.get?_push_of_some _ (Heap.get?_push_size _ rfl))
 have g2:(mz5 s.heap t1 t2).get? (mz1 s.heap t1).objs.size=some _:=Heap.get?_push_of_some _ (Heap.get?_push_of_some _ (Heap.get?_push_of_some _ (Heap.get?_push_size _ rfl)))
 have g1:(mz5 s.heap t1 t2).get? s.heap.objs.size=some _:=Heap.get?_push_of_some _ (Heap.get?_push_of_some _ (Heap.get?_push_of_some _ (Heap.get?_push_of_some _ (Heap.get?_push_size _ rfl))))
 show _∧_
 rw[z4,z3,z2] at g5
 rw[z3] at g4
 rw[z2,z1] at g3
 rw[z1] at g2
 obtain⟨p1,x1,r1⟩:=e1
 obtain⟨p2,x2,r2⟩:=e2
 rw[z4]
 exact⟨⟨_,g5,rfl⟩,k (mz5 s.heap t1 t2) ⟨g5,g3,g4,⟨_,g1,rfl,rfl⟩,⟨_,g2,rfl,rfl⟩,⟨p1,up _ _ x1,r1⟩,⟨p2,up _ _ x2,r2⟩⟩ z5 up⟩
theorem zu(a:Value){Q₁:Value→Shared→Prop}(h:Q₁ (.ref s.heap.objs.size) {s with heap:=s.heap.push {cls:= .type "dict",data:= .dict #[]}}):
 codeAny (model prog w) A (.call (.builtin "dict.__new__") ⟨[.type "dict",a],[]⟩) (wants Q₁ E) s:=kt_code_dict_new a h
theorem xj{K:Type}[DecidableEq K]{knd:KeyKind prog w K}{z ti to_ j1 j2 l1 l2:Addr}{vs us:Array Value}{ks:List K}{Q:Value→Shared→Prop}(hA:A.handled=none)(D:ZipApart z ti to_ j1 j2 l1 l2)(Z:ZM s.heap z ti to_ j1 j2 l1 l2 0 .none (.bool false) .none .none vs us)
 (e1:vs.size=ks.length)(e2:us.size=ks.length)(hk:∀(i:Nat) (k:K) (x:Value),ks[i]? =some k→vs[i]? =some x→knd.is k x=true)(hn:ks.Nodup)(h0:0<ks.length)(hz:ks.length≤sizeLine)
 (q:∀h' tk,h'.DictOf knd s.heap.objs.size (ks.zip us.toList)→(∀c o,c≠z→c≠to_→c≠j1→c≠j2→s.heap.get? c=some o→h'.get? c=some o)→Q (.ref s.heap.objs.size) {s with heap:=h',toks:=tk}):
 wpAny (model prog w) A (call (.type "dict") [.ref z]) Q E s:=by
 refine callType_codes (Q₁:=fun obj s₁=>obj= .ref s.heap.objs.size∧s₁={s with heap:=s.heap.push {cls:= .type "dict",data:= .dict #[]}}) F.kt_called_dict (F.kt_typeCall_dict_1 _) F.entry_dict_init (zu _ ⟨rfl,rfl⟩) ?_
 rintro obj s₁ ⟨rfl,rfl⟩
 have new:(s.heap.push {cls:= .type "dict",data:= .dict #[]}).DictOf knd s.heap.objs.size []:=Heap.DictOf.new s.heap
 have up:∀c o,s.heap.get? c=some o→(s.heap.push {cls:= .type "dict",data:= .dict #[]}).get? c=some o:=fun c o e=>Heap.get?_push_of_some _ e
 have lt:∀{c o},s.heap.get? c=some o→s.heap.objs.size≠c:=fun e=>Nat.ne_of_gt (Heap.lt_size e)
 have zz:IsZ (s.heap.push {cls:= .type "dict",data:= .dict #[]}) z ti to_ .none (.bool false):=up _ _ Z.z
 refine⟨new.typeIs,F.args_dict_init_2 _ _, ?_⟩
 delta Builtin.«dict.__init__»
 refine wpAny_bind ?_
 delta Builtin.Dict.selfAndRest
 refine wpAny_bind (wpAny_notOrdered_dict new.typeIs ?_)
 show wpAny _ _ (pure (s.heap.objs.size,[Value.ref z])) _ _ _
 refine wpAny_pure ?_
 show wpAny _ _ (Builtin.Dict.updateFrom "dict.__init__" s.heap.objs.size (.ref z) [] .none) _ _ _
 delta Builtin.Dict.updateFrom
 refine wpAny_bind (wpAny_typeOf (T:="zip") ⟨_,zz,rfl⟩ ?_)
 rw[if_pos (by decide)]
 refine wpAny_bind (xa zz hA fun h1 tk1 k1=> ?_)
 simp only[Option.isNone_none,if_true]
 refine wpAny_bind (wpAny_rule (wpAny_bind (wpAny_pyIter_zip (k1 _ _ zz) ?_)))
 obtain⟨p1,x1,_⟩:=Z.j1
 obtain⟨p2,x2,_⟩:=Z.j2
 obtain⟨p3,x3,_⟩:=Z.t1
 obtain⟨p4,x4,_⟩:=Z.t2
 obtain⟨od,es,ep,ho,r⟩:=new
 refine wpAny_pure ⟨plainId_quiet ky _,xh (A:=A.in1) (knd:=knd) (ks:=ks) (show A.in1.handled=none from hA) D ?_ e1 e2 hk hn h0 hz _ 0 _ 0 rfl (Nat.zero_le _) (.inl ⟨rfl, .none, .none, ?_⟩) ⟨od,es,ep,k1 _ _ ho,r⟩ fun h' tk hd kk=> ?_⟩
 · simp only[List.mem_cons,List.not_mem_nil,or_false,not_or]
   exact⟨lt Z.z,lt Z.ti,lt Z.to_,lt x1,lt x2,lt x3,lt x4⟩
 · obtain⟨z,ti,t,⟨p1,x1,r1⟩,⟨p2,x2,r2⟩,⟨p3,x3,r3⟩,⟨p4,x4,r4⟩⟩:=Z
   have k2:=fun c o e=>k1 c o (up c o e)
   exact⟨k2 _ _ z,k2 _ _ ti,k2 _ _ t,⟨p1,k2 _ _ x1,r1⟩,⟨p2,k2 _ _ x2,r2⟩,⟨p3,k2 _ _ x3,r3⟩,⟨p4,k2 _ _ x4,r4⟩⟩
 · exact⟨rfl,q h' tk hd fun c o c1 c2 c3 c4 e=>kk c o (Ne.symm (lt e)) c1 c2 c3 c4 (k1 _ _ (up _ _ e))⟩
end
def yk(K:W.Frag)(t:TA):TE:=fun σ H Q=>t σ H fun vs H1=>∃(l1 l2:Addr) (ks:List Key) (ys:List V),vs=[.ref l1, .ref l2]∧SqL K H1 l1 (ks.map kV)∧SqT K H1 l2 ys∧ks.Nodup∧ks.length=ys.length∧0<ks.length∧∀p,H1 p=none→Q (.ref p) (upd H1 p (.dK (ks.zip ys)))
theorem vz:∀{ks:List Key} {ys:List V} {us:List Value},Vals ys us→KV (ks.zip ys) (ks.zip us)
 |[],_,_,_=> .nil
 |_::_,_,_, .nil=> .nil
 |_::_,_,_, .cons h t=> .cons ⟨rfl,h⟩ (vz t)
theorem xk{X:Cx}{a b:Expr}{ta:TA}{p p2 pos pos2:Pos}(hc:X.calm=true)(hg1:Gl X "dict")(hm1:X.mg "dict"=none)(hg2:Gl X "zip")(hm2:X.mg "zip"=none)(ha:PA X [a,b] ta)(hs:starEach [a,b] X.env=[(false,eval a X.env),(false,eval b X.env)]:=by rfl)(hs2:starEach [b] X.env=[(false,eval b X.env)]:=by rfl)
 (ht:starEach [Expr.Call (.Name "zip" p2) [a,b] [] pos2] X.env=[(false,eval (.Call (.Name "zip" p2) [a,b] [] pos2) X.env)]:=by rfl):
 PE X (.Call (.Name "dict" p) [.Call (.Name "zip" p2) [a,b] [] pos2] [] pos) (yk X.K ta):=by
 intro pins s σ H Q I h
 refine Call_ (io I hg1 hm1 (show bootBuiltins "dict"=some (.type "dict") from by decide+kernel) (PyProof.Rows.callWith_type1 ?_ (by rw[ht];rfl) rfl))
 rw[ht]
 refine Calls.spliced_cons ?_
 refine Call_ (io I hg2 hm2 (show bootBuiltins "zip"=some (.type "zip") from by decide+kernel) (PyProof.Rows.callWith_type1 (thn (ha pos2 pins s σ H _ I h) fun us s1 ⟨vs,H1,I1,r1,q1⟩=> ?_) (by rw[hs,hs2]) (by rw[hs2];rfl)))
 obtain⟨l1,l2,ks,ys,e,q1,q2,hn,he,h0,q⟩:=q1
 subst e
 obtain⟨u1,u2,rfl,ru1,ru2⟩:=r1.two
 cases ru1
 cases ru2
 obtain⟨its1,v1,p1,z1⟩:=I1.list q1
 obtain⟨its2,v2,p2,z2⟩:=I1.tuple q2
 have b1:l1<s1.heap.objs.size:=by obtain⟨o,n,e,_⟩:=p1;exact Heap.lt_size e
 have b2:l2<s1.heap.objs.size:=by obtain⟨o,e,_⟩:=p2;exact Heap.lt_size e
 refine xi p1.isList p2 fun h' Z hz hk=> ?_
 refine Calls.spliced_nil ?_
 have D:=kT b1 b2
 have n1:=v1.length
 have n2:=v2.length
 rw[List.length_map] at n1 z1
 refine xj (s:={s1 with heap:=h'}) (knd:=eN X.prog X.w) (ks:=ks) (I1.ok.hd hc) D Z (by rw[List.size_toArray];omega) (by rw[List.size_toArray];omega) (fun i k x hk hx=> ?_) hn h0 z1 fun h2 tk hd k2=> ?_
 · have hx:its1[i]? =some x:=by simpa using hx
   obtain⟨u,e1,e2⟩:=v1.get (i:=i) (x:=kV k) (by rw[List.getElem?_map,hk];rfl)
   rw[hx] at e1
   cases e1
   exact u0 e2
 · have big:=I1.big
   have up:∀c o,s1.heap.get? c=some o→h2.get? c=some o:=fun c o e=>by
    have lt:c<s1.heap.objs.size:=Heap.lt_size e
    exact k2 c o (Nat.ne_of_lt (Nat.lt_add_right 4 lt)) (Nat.ne_of_lt (Nat.lt_add_right 3 lt)) (Nat.ne_of_lt lt) (Nat.ne_of_lt (Nat.lt_add_right 1 lt)) (hk c o e)
   have sz:s1.heap.objs.size≤h'.objs.size:=by omega
   refine⟨.ref h'.objs.size,upd H1 h'.objs.size (.dK (ks.zip ys)),I1.laid (t':=tk) up sz ?_,rfl,q _ (I1.hok.fresh sz)⟩
   exact y8 (by rw[List.length_zip];omega) (beq_eq_false_iff_ne.mpr (Nat.ne_of_gt (Nat.lt_of_lt_of_le big sz))) (by rw[List.toList_toArray] at hd;exact vz v2) (by simpa using hd)
end L2
namespace L2
open PySem PySem.Spec PyProof.Rows
section
variable{X:Cx}{K:W.Frag}
def vA:TS:=fun _ _ _=>False
theorem zv{st:Stmt}:PS X st vA:=fun _ _ _ _ _ _ h=>h.elim
end
theorem vB(a:Value):argsOk "max" ⟨[a],[]⟩:=by delta argsOk;kernel_rfl
section
variable{prog:Program}{w:World}{A:Around}{E:Value→Shared→Prop}{s:Shared}
theorem vC{l:Addr}{ys:Array (Int×Tok)}{Q:Value→Shared→Prop}(hh:A.handled=none)(hl:s.heap.IsList l (intItems ys))(hne:0<ys.size)
 (q:∀h' tk t,(∀b x,s.heap.get? b=some x→h'.get? b=some x)→Q (.int (numAt ys (argBest (fun i j=>decide (numAt ys i>numAt ys j)) (ys.size-1))) t) {s with heap:=h',toks:=tk}):
 wpAny (model prog w) A (call (.builtin "max") [.ref l] []) Q E s:=by
 have ll:l<s.heap.objs.size:=by obtain⟨o,e,_⟩:=id hl;exact Heap.lt_size e
 refine kmk_tree F.kind_max F.plain_max F.entry_max (vB _) ?_
 show wpAny (model prog w) A.in1 (Builtin.Builtins.bindParams "max" ["key","default"] 0 ⟨[],[]⟩>>=_) _ _ s
 refine wpAny_bind (wpAny_of_eq (show Builtin.Builtins.bindParams "max" ["key","default"] 0 ⟨[],[]⟩=pure [none,none] from rfl) ?_)
 refine wpAny_bind (wpAny_pure (wpAny_bind (wpAny_pyIter_list hl (wpAny_bind (wpAny_newList ?_ (Nat.zero_le _))))))
 rw[jG]
 refine wpAny_pure ⟨plainId_quiet F.plain_max_loop _, ?_⟩
 have lJ:l≠s.heap.objs.size:=Nat.ne_of_lt ll
 have sz:(s.heap.push {cls:= .type "list_iterator",data:= .fields #[.ref l, .int 0 0]}).objs.size=s.heap.objs.size+1:=Heap.size_push ..
 refine codeAny_max_loop_firstS (s:={s with heap:=_}) (Walks.list (A:=A.in1) hh s.heap.objs.size l lJ (intItems ys)).toS _ (CmpOf.ints_gt (numAt ys) fun _ _=>intItems_at) _ ?_ (by simpa [intItems] using hne) ⟨⟨_,Heap.get?_push_of_some _ (Heap.get?_push_size _ rfl),rfl,rfl⟩,(hl.push _).push _⟩ (Heap.get?_push_size _ rfl) fun v s' pv m=> ?_
 · intro z
   rcases List.mem_cons.mp z with z|z
   · exact absurd (z.symm.trans sz) (Nat.ne_of_lt (Nat.lt_succ_self _))
   · exact absurd (show l=s.heap.objs.size+1 from(List.mem_singleton.mp z).symm.trans sz) (Nat.ne_of_lt (Nat.lt_succ_of_lt ll))
 · obtain⟨t,rfl⟩:=intItems_at pv
   obtain⟨h',g',d',t',o'⟩:=s'
   have e1:g'=s.gens:=m.gens
   have e2:d'=s.drawn:=m.drawn
   have e3:o'=s.os:=m.os
   subst e1 e2 e3
   have z:(intItems ys).size=ys.size:=by simp[intItems]
   rw[z]
   refine q h' t' t fun b x e=>m.heap b x (fun hb=> ?_) (Heap.get?_push_of_some _ (Heap.get?_push_of_some _ e))
   have:=Heap.lt_size e
   rcases List.mem_cons.mp hb with hb|hb
   · rw[hb] at this
     exact absurd this (Nat.not_lt.mpr (show s.heap.objs.size≤_ from Nat.le_trans (Nat.le_succ _) (Nat.le_of_eq sz.symm)))
   · rw[List.mem_singleton.mp hb] at this
     exact Nat.lt_irrefl _ this
end
section
variable{X:Cx}
theorem uc(hc:X.calm=true):CallR X (.builtin "max") (vv X.K):=by
 intro pins s σ H xs us Q I r h
 obtain⟨l,n,ns,rfl,hS,q⟩:=h
 obtain⟨u,rfl,ru⟩:=r.one
 cases ru
 obtain⟨its,rv,pl,hz⟩:=I.list hS
 have hi:=jZ rv
 obtain⟨ys,hx⟩:=hi.allInts.items
 have hl':s.heap.IsList l (intItems ys):=hx▸pl.isList
 have e1:n::ns=ys.toList.map (·.1):=by
  rw[←nums_intItems,←hx]
  exact(show numsOf its.toArray.toList=n::ns from hi.numsOf).symm
 have e3:ys.size=ns.length+1:=by
  have:=congrArg List.length e1
  rw[List.length_map,List.length_cons,Array.length_toList] at this
  exact this.symm
 refine vC (I.ok.hd hc) hl' (by rw[e3];exact Nat.succ_pos _) fun h' tk t' hk=> ?_
 rw[jH (numAt ys),e3,Nat.add_sub_cancel]
 have e4:numAt ys=fun i=>((n::ns)[i]?).getD 0:=by funext i;rw[m6,←e1]
 rw[e4,qG]
 exact⟨.int _,H,I.kept hk,⟨_,rfl⟩,q⟩
end
open Builtin Builtin.Str
section
variable{prog:Program}{w:World}{A:Around}{E:Value→Shared→Prop}{s:Shared}
end
section
variable{X:Cx}
end
section
variable{prog:Program}{w:World}{A:Around}{E:Value→Shared→Prop}{s:Shared}
end
end L2
namespace PD
open PySem L2
def oA:List D→Option D
 |[.lst xs]=>(inS xs).bind fun
  |[]=>none
  |n::ns=>some (.int (mxL n ns))
 |_=>none
section
variable{K:W.Frag}{ns:List Str}
theorem sS:CaP K ns (vv K) oA:=by
 intro L H xs as d Q rx hf k
 unfold oA at hf
 split at hf
 · obtain⟨x,rfl,r⟩:=jj rx
   obtain⟨bs,eb,hf⟩:=bnd hf
   cases bs with
   |nil=>cases hf
   |cons b bs=>
    cases hf
    cases r with
    |lst l e r=>exact⟨_,b,bs,rfl,by rw[←u9 r eb];exact SqL.of e,k _ _ (Same.refl _) (.int _)⟩
 · cases hf
end
end PD
namespace PD
open PySem L2
def sT:List D→Option D
 |[.lst xs, .tup ds]=>(lp xs).bind fun ks=>if ks.Nodup∧ks.length=ds.length∧1≤ks.length∧ks.length<1000000 then some (.dk ks ds) else none
 |_=>none
section
variable{K:W.Frag}{ns:List Str}
theorem xl{n:Nat}{t:TA}{f:AF}(h:PuA K ns n t f):PuE K ns (yk K t) (ah sT f):=by
 intro L env σ H Q d he hf k
 obtain⟨as,ea,hf⟩:=bnd hf
 refine h L env σ H _ as he ea fun xs H1 _ S1 rx=> ?_
 unfold sT at hf
 split at hf
 · obtain⟨ks,ek,hf⟩:=bnd hf
   split at hf
   · rename_i hc
     cases hf
     obtain⟨x,y,rfl,r1,r2⟩:=lg rx
     cases r1 with
     | @lst a1 vs1 _ l1 e1 r1=>
       cases r2 with
       | @tup a2 vs2 _ e2 r2=>
         have hv:=sO r1 ek
         subst hv
         have hl:ks.length=vs2.length:=by rw[r2.len];exact hc.2.1
         refine⟨a1,a2,ks,vs2,rfl,SqL.of e1,SqT.of e2,hc.1,hl,hc.2.2.1,fun p hp=>k _ _ (S1.trans (bZ hp _)) ?_⟩
         have g1:(ks.zip vs2).map (·.1)=ks:=by rw[←List.unzip_fst,List.unzip_zip hl]
         have g2:(ks.zip vs2).map (·.2)=vs2:=by rw[←List.unzip_snd,List.unzip_zip hl]
         have:=Rd.dk (K:=K) (ns:=ns) (L:=Nw L H) (H:=upd H1 p (.dK (ks.zip vs2))) (a:=p) (kvs:=ks.zip vs2) (.inr (gX S1 hp)) bV (by rw[g2];exact r2.same (bZ hp _))
         rw[g1] at this
         exact this
   · cases hf
 · cases hf
end
end PD
namespace PD
open PySem L2
def nvS:SF:=fun _=>none
section
variable{K:W.Frag}{ns:List Str}
theorem xm{fr:Fr}{lf fl fl':List Bool}:PuS K ns fr lf fl vA nvS fl':=fun _ _ _ _ _ _ _ _ k=>k.elim
end
end PD
namespace PD
open PySem L2
open Builtin Builtin.Str
section
variable{K:W.Frag}{ns:List Str}
end
end PD
namespace PD
open PySem L2
def kd:D→Nat
 | .non=>0| .bl _=>1| .int _=>2| .str _=>3| .tup _=>4| .ob _ _=>5| .lst _=>6|_=>9
def kO:Option HO→Nat
 |some (.tup _)=>4
 |some (.ins _ _ _)=>5
 |some (.lst _)=>6
 |_=>9
def kH(H:Hp):V→Nat
 | .non=>0| .bl _=>1| .int _=>2| .str _=>3
 | .ref a=>kO (H a)
 |_=>9
def ap1(a b:D):Bool:=kd a != 9&&(kd b != 9&&kd a != kd b)
def apL:List D→List D→Bool
 |[],[]=>false
 |a::as,b::bs=>ap1 a b||apL as bs
 |_,_=>true
def zw:List Bool→Env→List (List D)
 |b::fl,o::env=>(match b,o with|true,some (.lst ys)=>[ys]|_,_=>[])++zw fl env
 |_,_=>[]
def A4:HO→Bool
 | .lst _=>true
 | .ins _ _ _=>true
 |_=>false
section
variable{K:W.Frag}{ns:List Str}{fr:Fr}{lf fl fl':List Bool}{L L' L0:Addr→Prop}{H H0:Hp}{O:List (Option Addr)}{env:Env}{σ:St}
theorem ym{v:V}{d:D}(r:Rd K ns L H v d):kd d=9∨kd d=kH H v:=by
 cases r with
 |tup e _=>exact .inr (by show _=kO (H _);rw[e];rfl)
 |lst _ e _=>exact .inr (by show _=kO (H _);rw[e];rfl)
 |ob _ e _ _=>exact .inr (by show _=kO (H _);rw[e];rfl)
 |_=>first|exact .inr rfl|exact .inl rfl
theorem zx{v:V}{a b:D}(r:Rd K ns L H v a)(s:Rd K ns L' H v b):ap1 a b=false:=by
 unfold ap1
 rcases ym r with h|h
 · rw[h];rfl
 · rcases ym s with q|q
   · rw[q];cases kd a != 9<;>rfl
   · rw[h,q];cases kH H v != 9<;>simp
theorem zy{vs:List V}{xs ys:List D}(r:Rds K ns L H vs xs)(s:Rds K ns L' H vs ys):apL xs ys=false:=by
 induction vs generalizing xs ys with
 |nil=>rw[r.nilL,s.nilL];rfl
 |cons v vs ih=>
  obtain⟨x,xs,rfl,h,t⟩:=r.consL
  obtain⟨y,ys,rfl,h',t'⟩:=s.consL
  show (ap1 x y||apL xs ys)=false
  rw[zx h h',ih t t']
  rfl
theorem qH:∀{fl:List Bool} {env:Env} {i:Nat} {ys:List D},fl[i]? =some true→env[i]? =some (some (.lst ys))→ys∈zw fl env
 |[],_,_,_,h,_=>by simp at h
 |_::_,[],_,_,_,e=>by simp at e
 |b::fl,o::env,0,ys,h,e=>by
  cases h
  cases e
  exact List.mem_append_left _ (List.mem_singleton.mpr rfl)
 |b::fl,o::env,i+1,ys,h,e=>List.mem_append_right _ (qH (i:=i) h e)
theorem Iv.clear(I:Iv K ns fl L0 H0 O env σ H)(a:Addr)(h:Nw L0 H0 a):Lm L0 H0 O a∨(∃(vs:List V) (ys:List D) (L':Addr→Prop),H a=some (.lst vs)∧ys∈zw fl env∧Rds K ns L' H vs ys)∨∃o,H a=some o∧A4 o=false:=by
 by_cases m:some a∈O
 · obtain⟨i,hi,e⟩:=List.getElem_of_mem m
   have ho:O[i]? =some (some a):=by rw[List.getElem?_eq_getElem hi,e]
   obtain⟨_,_,o,d,ed,hp,r⟩:=I.ow i a ho
   rcases r.case with⟨vs,ds,rfl,rfl,r⟩|⟨kvs,ds,rfl,rfl,r⟩|⟨kvs,ds,rfl,rfl,r⟩
   · refine .inr (.inl ⟨vs,ds,_,hp,qH (i:=i) ?_ ed,r⟩)
     rw[←I.fl,List.getElem?_map,ho]
     rfl
   · exact .inr (.inr ⟨_,hp,rfl⟩)
   · exact .inr (.inr ⟨_,hp,rfl⟩)
 · exact .inl ⟨h,m⟩
end
section
variable(K:W.Frag)(ns:List Str)
def PuX(t:TE)(f:VF):Prop:=∀(L:Addr→Prop) (env:Env) (σ:St) (H:Hp) (Q:VK) (d:D),EnvR K ns L env σ H→f env=some d→(∀v H',Same H H'→Rd K ns (fun a=>H a=none) H' v d→Q v H')→t σ H Q
end
section
variable{K:W.Frag}{ns:List Str}{fr:Fr}{lf fl fl':List Bool}
end
end PD
namespace PD
open PySem L2
def flatV(f:VF):VF:=fun env=>(f env).bind fun d=>if d.flat=true then some d else none
def xn(f:VF):VF:=fun env=>(f env).bind fun| .lst ds=>if flats ds=true then some (.lst ds) else none|_=>none
def vE(i:Nat)(f:VF):SF:=fun env=>(f env).bind fun d=>(e8 i env).bind fun xs=>if xs.length<1000000 then some (.nx (env.set i (some (.lst (xs++[d]))))) else none
abbrev Zn(H0:Hp):Addr→Prop:=fun a=>H0 a=none
def spN(K:W.Frag)(ns:List Str)(c:Cl)(n:Nat)(I:List D→Option (List (Fl×D))):Sp:=fun vs H Q _=>∃(x dx:Addr) (us:List V) (L:Addr→Prop) (ds:List D) (fs:List (Fl×D)),vs= .ref x::us∧ds.length=n∧H x=some (.ins (clA K c.s) dx [])∧¬L x∧CF K ns c∧Rds K ns L H us ds∧I ds=some fs∧
 ∀H' gs,(∀b o,b≠x→H b=some o→H' b=some o)→H' x=some (.ins (clA K c.s) dx gs)→Rfs K ns (Zn H) H' gs fs→Q .non H'
section
variable{K:W.Frag}{ns:List Str}{fr:Fr}{lf fl:List Bool}
theorem kA{n:Nat}{I:List D→Option (List (Fl×D))}{t:TA}{f:AF}{E:XK}(c:Cl)(d:CF K ns c)(h:PuA K ns n t f):PuX K ns (sj (clA K c.s) (spN K ns c n I) [] E t) (fo c I f):=by
 intro L env σ H Q r he hf k
 obtain⟨as,ea,hf⟩:=bnd hf
 obtain⟨fs,ef,rfl⟩:=Option.map_eq_some_iff.mp hf
 refine h L env σ H _ as he ea fun vs H1 hl S1 rv x dx hx hd hne=> ?_
 have up:∀b o,H1 b=some o→upd (upd H1 dx (.own x)) x (.ins (clA K c.s) dx []) b=some o:=fun b o e=>by rw[bO (bL e hx),bO (bL e hd)];exact e
 refine⟨x,dx,vs,fun a=>Nw L H a∧a≠x,as,fs,by rw[List.append_nil],hl,bV,fun q=>q.2 rfl,d,rv.mono2 (fun a o e l=>⟨l,bL e hx⟩) (.of up),ef,fun H' gs kp e' rf=>⟨rfl, ?_⟩⟩
 have up2:Same H1 H':=fun b o e=>kp b o (bL e hx) (up b o e)
 refine k _ _ (S1.trans up2) (.ob (gX S1 hx) e' d (rf.mono (fun a l=>gX S1 ?_) .refl))
 cases z:H1 a with
 |none=>rfl
 |some o'=>
  have l:upd (upd H1 dx (.own x)) x (.ins (clA K c.s) dx []) a=none:=l
  rw[up a o' z] at l
  cases l
theorem PuX.pe{t:TE}{f:VF}(h:PuX K ns t f):PuE K ns t f:=fun L env σ H Q d he hf k=>h L env σ H Q d he hf fun v H' S r=>k v H' S (r.mono (fun _ q=> .inr q) .refl)
def rQ(K:W.Frag)(ns:List Str)(C:Addr)(t:TS)(l:List (Fl×VF)):Prop:=∀(H0:Hp) (L:Addr→Prop) (env:Env) (σ:St) (H:Hp) (E:Ends) (x dx:Addr) (gs:List (Str×V)) (fs fs':List (Fl×D)),(∀b o,b≠x→H0 b=some o→H b=some o)→H0 x≠none→σ[0]? =some (some (.ref x))→H x=some (.ins C dx gs)→¬L x→Cls K C→(∀f∈l,NoAttr K C f.1.s)→gs.length+l.length<900→(fs.map Prod.fst++l.map Prod.fst).Nodup→EnvR K ns L env σ H→Rfs K ns (Zn H0) H gs fs→lQ l env=some fs'→
 (∀H' gs',(∀b o,b≠x→H b=some o→H' b=some o)→H' x=some (.ins C dx gs')→gs'.length≤gs.length+l.length→Rfs K ns (Zn H0) H' gs' (fs++fs')→E.nx σ H')→t E σ H
theorem qI{C:Addr}{te:TE}{fe:VF}(f:Fl)(h:∀(H0:Hp) (L:Addr→Prop) (env:Env) (σ:St) (H:Hp) (Q:VK) (d:D),EnvR K ns L env σ H→fe env=some d→(∀v H',Same H H'→Rd K ns (Zn H) H' v d→Q v H')→te σ H Q):rQ K ns C (uC K (hV 0) te f.s) [(f,fe)]:=by
 intro H0 L env σ H E x dx gs fs fs' h0 x0 hs hx hl cl na hlen nd he rf hi k
 obtain⟨d,ed,hi⟩:=bnd hi
 cases hi
 refine h H0 L env σ H _ d he ed fun v H1 S1 rv=>⟨_,hs,x,C,dx,gs,rfl,S1 _ _ hx,cl,na _ (List.mem_singleton.mpr rfl),by simp only[List.length_singleton] at hlen;omega, ?_⟩
 have rv':Rd K ns (Zn H0) H1 v d:=rv.mono (fun a q=>by
  cases w:H0 a with
  |none=>exact w
  |some o=>
   have z:a≠x:=fun z=>by
    subst z
    have q:H a=none:=q
    rw[hx] at q
    cases q
   have q:H a=none:=q
   rw[h0 a o z w] at q
   cases q) .refl
 have kp:KeepL (Zn H0) H1 (upd H1 x (.ins C dx (iQ f.s v gs))):=fun a o e hm=>by
  by_cases z:a=x
  · subst z
    rw[S1 _ _ hx] at e
    cases e
    exact absurd (hm rfl) x0
  · rw[bO z];exact e
 have nf:f∉fs.map Prod.fst:=fun q=>by
  have:=(List.nodup_append.mp nd).2.2 _ q f (List.mem_singleton.mpr rfl)
  exact this rfl
 refine k _ _ (fun b o hb e=>by rw[bO hb];exact S1 _ _ e) bV (by simpa using mY) ?_
 refine sL ((sK rf nf).mono (fun _ q=>q) (fun a o e hm=> ?_)) (.cons (by rw[gN,if_pos rfl]) (rv'.mono (fun _ q=>q) kp) .nil)
 exact kp a o (S1 _ _ e) hm
theorem sU{C:Addr}{te:TE}{fe:VF}(f:Fl)(h:PuE K ns te fe):rQ K ns C (uC K (hV 0) te f.s) [(f,flatV fe)]:=qI f fun H0 L env σ H Q d he hf k=>by
 obtain⟨d',ed,hf⟩:=bnd hf
 split at hf
 · rename_i hd
   cases hf
   exact h L env σ H Q d he ed fun v H' S r=>k v H' S (r.flat hd)
 · cases hf
theorem xo{C:Addr}{te:TE}{fe:VF}(f:Fl)(h:PuF K ns te fe):rQ K ns C (uC K (hV 0) te f.s) [(f,xn fe)]:=qI f fun H0 L env σ H Q d he hf k=>by
 obtain⟨d',ed,hf⟩:=bnd hf
 refine h L env σ H Q d' he ed fun p vs ds H' e S hp hl r=> ?_
 subst e
 have hf:(if flats ds=true then some (D.lst ds) else none)=some d:=hf
 split at hf
 · rename_i hd
   cases hf
   exact k _ H' S (.lst hp hl (r.flat hd))
 · cases hf
theorem sV{C:Addr}{t u:TS}{a:Fl×VF}{r:List (Fl×VF)}(h1:rQ K ns C t [a])(h2:rQ K ns C u r):rQ K ns C (iP t u) (a::r):=by
 intro H0 L env σ H E x dx gs fs fs' h0 x0 hs hx hl cl na hlen nd he rf hi k
 obtain⟨f,fe⟩:=a
 obtain⟨d,ed,hi⟩:=bnd hi
 obtain⟨gU,er,rfl⟩:=Option.map_eq_some_iff.mp hi
 have nd':(fs.map Prod.fst++[f]).Nodup∧((fs++[(f,d)]).map Prod.fst++r.map Prod.fst).Nodup:=by
  rw[List.map_cons] at nd
  have e:fs.map Prod.fst++f::r.map Prod.fst=(fs.map Prod.fst++[f])++r.map Prod.fst:=by simp
  rw[e] at nd
  exact⟨(List.nodup_append.mp nd).1,by simpa using nd⟩
 refine h1 H0 L env σ H _ x dx gs fs [(f,d)] h0 x0 hs hx hl cl (fun g hg=>na g (by rw[List.mem_singleton.mp hg];exact List.mem_cons_self)) (by simp only[List.length_cons] at hlen;simp only[List.length_singleton];omega) nd'.1 he rf (by show (fe env).bind _=_;rw[ed];rfl) fun H1 gs1 kp1 hx1 hl1 rf1=> ?_
 have hk:KeepL L H H1:=fun a o e hm=>by
  by_cases z:a=x
  · subst z
    rw[hx] at e
    cases e
    exact absurd (hm rfl) hl
  · exact kp1 a o z e
 refine h2 H0 L env σ H1 E x dx gs1 (fs++[(f,d)]) gU (fun b o hb e=>kp1 b o hb (h0 b o hb e)) x0 hs hx1 hl cl (fun g hg=>na g (List.mem_cons_of_mem _ hg)) (by simp only[List.length_cons,List.length_nil] at hlen hl1 ⊢;omega) nd'.2 (fun i d' e=>by
  obtain⟨v,q,rr⟩:=he i d' e
  exact⟨v,q,rr.mono (fun _ q=>q) hk⟩) rf1 er fun H2 gs2 kp2 hx2 hl2 rf2=> ?_
 refine k H2 gs2 (fun b o hb e=>kp2 b o hb (kp1 b o hb e)) hx2 (by simp only[List.length_cons,List.length_nil] at hl1 hl2 ⊢;omega) ?_
 rw[List.append_assoc] at rf2
 exact rf2
theorem vF{c:Cl}{t:TS}{l:List (Fl×VF)}{n:Nat}{N:List Str}{vs:List V}{H:Hp}{Q:VK}{E:XK}(h:rQ K ns (clA K c.s) t l)(hf:l.map Prod.fst=c.fs)(hN:N.length=n+1)(s:spN K ns c n (oz l) vs H Q E):t {nx:=fun _ H'=>Q .non H',rt:=Q} (start N vs) H:=by
 obtain⟨x,dx,us,L,ds,fs,rfl,hl,hx,nl,cf,r,ei,k⟩:=s
 have hlen:l.length<800:=by
  have:=congrArg List.length hf
  rw[List.length_map] at this
  rw[this]
  cases c<;>decide
 have nd:(l.map Prod.fst).Nodup:=by rw[hf];cases c<;>decide
 have st:start N (.ref x::us)=some (.ref x)::us.map some:=by
  unfold L2.start
  have:N.length-(V.ref x::us).length=0:=by rw[List.length_cons,r.len];omega
  rw[this]
  simp
 rw[st]
 refine h H L (none::ds.map some) _ H _ x dx [] [] fs (fun _ _ _ e=>e) (by rw[hx];exact fun q=>by cases q) rfl hx nl cf.cls (fun f hf'=>cf.na _ ?_) (by show 0+l.length<900;omega) (by simpa using nd) (fun i d e=> ?_) .nil ei fun H' gs kp hx' _ rf=>k H' gs kp hx' (by simpa using rf)
 · rw[←hf,List.map_map]
   exact List.mem_map.mpr ⟨f,hf',rfl⟩
 · cases i with
   |zero=>cases e
   |succ i=>
    have e':(ds.map some)[i]? =some (some d):=e
    rw[List.getElem?_map] at e'
    obtain⟨d',hd,e'⟩:=Option.map_eq_some_iff.mp e'
    cases e'
    obtain⟨v,hv,rv⟩:=r.get hd
    exact⟨v,by show (us.map some)[i]? =_;rw[List.getElem?_map,hv];rfl,rv⟩
theorem xp{c:Cl}{n:Nat}{I:List D→Option (List (Fl×D))}{vs:List V}{H:Hp}{Q:VK}{E:XK}(h:spN K ns c n I vs H Q E):vs.length=n+1:=by
 obtain⟨x,dx,us,L,ds,fs,rfl,hl,_,_,_,r,_⟩:=h
 rw[List.length_cons,r.len,hl]
end
end PD
namespace PD
open PySem L2
def vG(y:Nat)(σ σ':St):Prop:=σ'.length=σ.length∧∀j,j≠y→σ'[j]? =σ[j]?
def ud(K:W.Frag)(ns:List Str)(c:Nat)(fl:List Bool)(L0:Addr→Prop)(H0:Hp)(O:List (Option Addr))(E:Ends)(ZZ:Env→Hp→Prop):Option Out→Prop
 |some (.nx e)=>∀σ' H',Iv K ns fl L0 H0 O e σ' H'→ZZ e H'→E.nx σ' H'
 |some (.bk e)=>∀σ' H',Iv K ns fl L0 H0 O e σ' H'→ZZ e H'→E.bk σ' H'
 |some (.ct e)=>∀σ' H',Iv K ns fl L0 H0 O e σ' H'→ZZ e H'→E.ct σ' H'
 |some (.rt d)=>∀v H',Same H0 H'→Rd K ns (fun a=>H0 a=none) H' v d→E.rt v H'
 |none=>False
def ZZ(K:W.Frag)(ns:List Str)(c:Nat)(H0:Hp)(O:List (Option Addr))(env:Env)(H:Hp):Prop:=∃p vs ds,O[c]? =some (some p)∧env[c]? =some (some (.lst ds))∧H p=some (.lst vs)∧Rds K ns (fun a=>H0 a=none∧some a∉O) H vs ds
def PuZ(K:W.Frag)(ns:List Str)(c:Nat)(fl:List Bool)(t:TS)(F:SF):Prop:=∀(L0:Addr→Prop) (H0:Hp) (O:List (Option Addr)) (env:Env) (σ:St) (H:Hp) (E:Ends),Iv K ns fl L0 H0 O env σ H→ZZ K ns c H0 O env H→ud K ns c fl L0 H0 O E (ZZ K ns c H0 O) (F env)→t E σ H
def vH(c:Nat)(F G:SF):SF:=fun env=>(F env).bind fun
 | .nx e=>match (e[c]?).join with
   |some (.lst [])=>(G e).bind fun| .rt d=>some (.rt d)|_=>none
   |_=>none
 |_=>none
section
variable{K:W.Frag}{ns:List Str}{fr:Fr}{lf fl fl' fl'':List Bool}{L0:Addr→Prop}{H0 H H' H'':Hp}{O O' O'':List (Option Addr)}{env:Env}{σ σ':St}{c:Nat}
theorem zA{t u:TS}{F G:SF}(a:PuS K ns .nw [] fl t F fl')(b:PuZ K ns c fl' u G)(hc:fl'[c]? =some true):PuS K ns .nw lf fl (iP t u) (vH c F G) fl'':=by
 intro L0 H0 O env σ H E I h
 refine a L0 H0 O env σ H _ I ?_
 unfold vH at h
 cases e:F env with
 |none=>rw[e] at h;exact h
 |some o=>
  rw[e] at h
  cases o with
  |nx e2=>
   intro O' σ' H' T I'
   have h':Fin K ns .nw lf fl'' L0 H0 O H E (match (e2[c]?).join with
    |some (.lst [])=>(G e2).bind fun| .rt d=>some (.rt d)|_=>none
    |_=>none):=h
   split at h'
   · rename_i ej
     have ee:e2[c]? =some (some (.lst [])):=by
      cases q:e2[c]? with
      |none=>rw[q] at ej;cases ej
      |some z=>rw[q] at ej;exact congrArg some ej
     obtain⟨p,ho⟩:=I'.owned hc
     obtain⟨h0,hs,ob,d,ed,hp,r⟩:=I'.ow c p ho
     rw[ee] at ed
     cases ed
     obtain⟨vs,rfl,r⟩:=r.lst
     refine b L0 H0 O' e2 σ' H' E I' ⟨p,vs,[],ho,ee,hp, ?_⟩ ?_
     · cases r;exact .nil
     · cases eg:G e2 with
       |none=>rw[eg] at h';exact h'.elim
       |some o2=>
        rw[eg] at h'
        cases o2 with
        |rt d=>exact h'
        |nx e=>exact h'.elim
        |bk e=>exact h'.elim
        |ct e=>exact h'.elim
   · exact h'.elim
  |rt d=>exact h.elim
  |bk e=>exact h.elim
  |ct e=>exact h.elim
theorem sW{t u:TS}{F G:SF}(a:PuZ K ns c fl t F)(b:PuZ K ns c fl u G):PuZ K ns c fl (iP t u) (aT F G):=by
 intro L0 H0 O env σ H E I z h
 refine a L0 H0 O env σ H _ I z ?_
 unfold aT at h
 cases e:F env with
 |none=>rw[e] at h;exact h.elim
 |some o=>
  rw[e] at h
  cases o with
  |nx e2=>exact fun σ' H' I' z'=>b L0 H0 O e2 σ' H' E I' z' h
  |rt d=>exact h
  |bk e=>exact h
  |ct e=>exact h
theorem vI(i:Nat){t:TE}{f:VF}(h:PuE K ns t f)(hi:fl[i]? =some false)(hc:i≠c):PuZ K ns c fl (qq t (iq i)) (a7 i (mk fl f)):=by
 intro L0 H0 O env σ H E I z k
 unfold a7 mk at k
 cases e:f (fj fl env) with
 |none=>rw[e] at k;exact k.elim
 |some d=>
  rw[e] at k
  refine h _ (fj fl env) σ H _ d I.strict e fun v H' S r=> ?_
  have this:=(I.same S).store (i:=i) (r.mono (fun _ q=>I.nwm q) .refl)
  rw[jE hi,jE (I.free hi)] at this
  obtain⟨p,vs,ds,ho,ed,hp,rr⟩:=z
  exact k _ _ this ⟨p,vs,ds,ho,by rw[List.getElem?_set,if_neg hc];exact ed,S _ _ hp,rr.same S⟩
theorem AH{t:TE}{f:VF}(h:PuX K ns t f):PuZ K ns c fl (iZ (tBM K "list" je (hV c) (gv t kc))) (vE c f):=by
 intro L0 H0 O env σ H E I z k
 obtain⟨p,vs,ds,ho,ed,hp,rr⟩:=z
 obtain⟨h0,hs,_,_,ed',hp',r⟩:=I.ow c p ho
 rw[ed] at ed'
 cases ed'
 rw[hp] at hp'
 cases hp'
 unfold vE at k
 cases e:f env with
 |none=>rw[e] at k;exact k.elim
 |some d=>
  rw[e] at k
  have k':ud K ns c fl L0 H0 O E (ZZ K ns c H0 O) ((e8 c env).bind fun xs=>if xs.length<1000000 then some (.nx (env.set c (some (.lst (xs++[d]))))) else none):=k
  unfold e8 at k'
  rw[ed] at k'
  have k2:ud K ns c fl L0 H0 O E (ZZ K ns c H0 O) (if ds.length<1000000 then some (.nx (env.set c (some (.lst (ds++[d]))))) else none):=k'
  by_cases hl:ds.length<1000000
  · rw[if_pos hl] at k2
    refine⟨_,hs, .inl ⟨rfl,_,SqL.of hp⟩,h _ env σ H _ d I.weak e fun v H' S rv=> ?_⟩
    refine⟨p,vs,v,rfl,rfl,S _ _ hp,by rw[rr.len];exact Nat.lt_trans hl (by decide), ?_⟩
    have I':=I.same S
    refine k2 _ _ (I'.alter ho ((Rds.same r S).append (.cons (rv.mono (fun _ q=>I.new_m q) .refl) .nil))) ⟨p,_,_,ho,by rw[List.getElem?_set,if_pos rfl,if_pos (List.getElem?_eq_some_iff.mp ed).1],bV, ?_⟩
    refine((rr.same S).append (.cons (rv.mono (fun a q=>⟨gX I.sm q,(I.new_m q).2⟩) .refl) .nil)).mono (fun _ q=>q) fun a o ea hm=> ?_
    by_cases za:a=p
    · subst za
      rw[S _ _ hp] at ea
      cases ea
      exact absurd (List.mem_of_getElem? ho) (hm rfl).2
    · rw[bO za];exact ea
  · rw[if_neg hl] at k2
    exact k2.elim
theorem AI:PuZ K ns c fl (tN (hV c)) (bp c):=by
 intro L0 H0 O env σ H E I z k
 obtain⟨p,vs,ds,ho,ed,hp,rr⟩:=z
 obtain⟨h0,hs,_⟩:=I.ow c p ho
 unfold bp e8 at k
 rw[ed] at k
 exact⟨_,hs,k _ _ I.sm (.lst h0 hp (rr.mono (fun _ q=>q.1) .refl))⟩
theorem xq{cc:TT}{t:TS}{fc:BF}{b:SF}(hc:PuT K ns cc fc)(hb:PuZ K ns c fl t b):PuZ K ns c fl (rh cc t) (whS fc b):=by
 intro L0 H0 O env σ H E I z k
 unfold whS at k
 refine⟨fun m σ2 H2=>∃e2,Iv K ns fl L0 H0 O e2 σ2 H2∧ZZ K ns c H0 O e2 H2∧ud K ns c fl L0 H0 O E (ZZ K ns c H0 O) (whN fc b m e2),⟨1000000,env,I,z,k⟩, ?_⟩
 rintro m σ2 H2 ⟨e2,I2,z2,k2⟩
 cases m with
 |zero=>exact k2.elim
 |succ m=>
  rw[whN] at k2
  cases ec:fc e2 with
  |none=>rw[ec] at k2;exact k2.elim
  |some x=>
   rw[ec] at k2
   have zz:∀H3,Same H2 H3→ZZ K ns c H0 O e2 H3:=fun H3 S3=>by
    obtain⟨p,vs,ds,ho,ed,hp,rr⟩:=z2
    exact⟨p,vs,ds,ho,ed,S3 _ _ hp,rr.same S3⟩
   refine hc _ e2 σ2 H2 _ x I2.weak ec fun H3 S3=> ?_
   cases x with
   |false=>
    rw[if_neg Bool.false_ne_true]
    exact k2 σ2 H3 (I2.same S3) (zz H3 S3)
   |true=>
    rw[if_pos rfl]
    refine⟨fun σ' H'=>∃m',m'<m+1∧∃e2,Iv K ns fl L0 H0 O e2 σ' H'∧ZZ K ns c H0 O e2 H'∧ud K ns c fl L0 H0 O E (ZZ K ns c H0 O) (whN fc b m' e2),fun σ' H' h=>h, ?_⟩
    refine hb L0 H0 O e2 σ2 H3 _ (I2.same S3) (zz H3 S3) ?_
    have k3:ud K ns c fl L0 H0 O E (ZZ K ns c H0 O) ((b e2).bind fun
     | .nx e=>whN fc b m e
     | .ct e=>whN fc b m e
     | .bk e=>some (.nx e)
     | .rt d=>some (.rt d)):=k2
    cases ebd:b e2 with
    |none=>rw[ebd] at k3;exact k3.elim
    |some o=>
     rw[ebd] at k3
     cases o with
     |nx e4=>exact fun σ5 H5 I5 z5=>⟨m,by omega,e4,I5,z5,k3⟩
     |rt d=>exact k3
     |ct e4=>exact fun σ5 H5 I5 z5=>⟨m,by omega,e4,I5,z5,k3⟩
     |bk e4=>exact k3
theorem zB{t:TE}{f:VF}(h:PuX K ns t f):PuS K ns .nw lf fl (tN t) (bd f) fl':=by
 intro L0 H0 O env σ H E I k
 unfold bd at k
 cases e:f env with
 |none=>rw[e] at k;exact k.elim
 |some d=>
  rw[e] at k
  exact h _ env σ H _ d I.weak e fun v H' S r=>k v H' (I.sm.trans S) (r.mono (fun _ q=>gX I.sm q) .refl)
theorem sX{t:TS}{b:SF}{n m:Nat}{N:List Str}{vs:List V}{H:Hp}{Q:VK}{E:XK}(h:PuS K ns .nw [] (List.replicate n false) t b fl')(hN:N.length=n)(hm:m≤n)(s:spP K ns .nw m (bg n b) vs H Q E):t {nx:=fun _ H'=>Q .non H',rt:=Q} (start N vs) H:=by
 obtain⟨L,ds,d,hl,r,hf,k⟩:=s
 refine h L H _ _ _ _ _ (mX r hN (by omega)) ?_
 unfold bg at hf
 cases e:b (ix n ds) with
 |none=>rw[e] at hf;cases hf
 |some o=>
  rw[e] at hf
  cases o with
  |rt d2=>cases hf;exact k
  |nx e2=>cases hf
  |bk e2=>cases hf
  |ct e2=>cases hf
theorem jI{n:Nat}{F:List D→Option D}{t:TA}{f:AF}{E:XK}(h:PuA K ns n t f):PuX K ns (n5 (spP K ns .nw n F) [] E t) (ah F f):=by
 intro L env σ H Q d he hf k
 obtain⟨a,ea,hf⟩:=bnd hf
 exact h L env σ H _ a he ea fun xs H1 hl S1 rx=>⟨Nw L H,a,d,hl,by rw[List.append_nil];exact rx,hf,fun v H2 S2 r=>k v H2 (S1.trans S2) (Rd.mono (fun _ q=>gX S1 q) .refl (show Rd K ns (fun a=>H1 a=none) H2 v d from r))⟩
theorem Iv.hide(I:Iv K ns fl L0 H0 O env σ H){y:Nat}(hy:O[y]? =some none)(A:vG y σ σ'):Iv K ns fl L0 H0 O (env.set y none) σ' H where
 sm:=I.sm
 fl:=I.fl
 ln:=by rw[A.1];exact I.ln
 le:=by rw[List.length_set];exact I.le
 rd i d e h:=by
  rw[List.getElem?_set] at e
  split at e
  · split at e<;>cases e
  · rename_i z
    rw[A.2 i (fun q=>z q.symm)]
    exact I.rd i d e h
 ow i p h:=by
  have z:y≠i:=fun q=>by subst q;rw[hy] at h;cases h
  rw[A.2 i (fun q=>z q.symm),List.getElem?_set,if_neg z]
  exact I.ow i p h
 inj:=I.inj
structure Ch(p:Option Addr)(Hc H1:Hp)(n:Nat)(H':Hp):Prop where
 c0:Same Hc H'
 c1:∀b o,H1 b=some o→(∀us,o≠ .lst us)→H' b=some o
 c2:∀q,p=some q→∀o,H1 q=some o→H' q=some o
 c3:∀b us,some b≠p→H1 b=some (.lst us)→us.length<1000→∃us',H' b=some (.lst us')∧us'.length<1000+n
theorem Ch.same{p:Option Addr}{Hc H1:Hp}{n:Nat}(C:Ch p Hc H1 n H)(S:Same H H'):Ch p Hc H1 n H' where
 c0:=C.c0.trans S
 c1 b o e q:=S _ _ (C.c1 b o e q)
 c2 q e o h:=S _ _ (C.c2 q e o h)
 c3 b us a e l:=by
  obtain⟨us',q,r⟩:=C.c3 b us a e l
  exact⟨us',S _ _ q,r⟩
theorem Ch.upd{p:Option Addr}{Hc H1:Hp}{n m:Nat}{w:Addr}{us us':List V}(C:Ch p Hc H1 n H)(e:H w=some (.lst us))(hp:some w≠p)(hc:Hc w=none)(hl:us'.length<1000+m)(hm:n≤m):Ch p Hc H1 m (upd H w (.lst us')) where
 c0 b o q:=by rw[bO (bL q hc)];exact C.c0 b o q
 c1 b o q h:=by
  have:=C.c1 b o q h
  rw[bO fun z=>by subst z;rw[e] at this;cases this;exact h _ rfl]
  exact this
 c2 q eq o h:=by
  have:=C.c2 q eq o h
  rw[bO fun z=>by subst z;exact hp eq.symm]
  exact this
 c3 b vs a q l:=by
  by_cases z:b=w
  · subst z
    exact⟨us',bV,hl⟩
  · obtain⟨vs',q',r⟩:=C.c3 b vs a q l
    exact⟨vs',by rw[bO z];exact q',by omega⟩
def Gd(K:W.Frag)(p:Option Addr)(Hc H1:Hp)(v:V):Prop:=∃a C dx gs w us,v= .ref a∧H1 a=some (.ins C dx gs)∧Cls K C∧NoAttr K C Fl.wheels.s∧gs.lookup Fl.wheels.s=some (.ref w)∧Hc w=none∧some w≠p∧H1 w=some (.lst us)∧us.length<1000
def jV(d:D):Option (List D):=(bU .wheels d).bind fun| .lst ws=>if ws.length<1000 then some ws else none|_=>none
theorem yn{p:Option Addr}{Hc H1:Hp}{v:V}{d:D}{ws:List D}(r:Rd K ns (fun a=>Hc a=none) H1 v d)(e:jV d=some ws)(hp:∀w us,H1 w=some (.lst us)→Rds K ns (fun a=>Hc a=none) H1 us ws→some w≠p):Gd K p Hc H1 v:=by
 unfold jV at e
 obtain⟨g,eg,e⟩:=bnd e
 cases r<;>first|(cases eg;done)|skip
 rename_i l e1 cf rf
 dsimp only[bU] at eg
 split at eg
 · rename_i hm
   obtain⟨u,ev,rv⟩:=pD rf eg
   cases rv<;>first|(cases e;done)|skip
   rename_i w us dd lw ew rw'
   have e':(if dd.length<1000 then some dd else none)=some ws:=e
   split at e'
   · rename_i hl
     cases e'
     exact⟨_,_,_,_,w,us,rfl,e1,cf.cls,cf.na _ (List.mem_map_of_mem hm),ev,lw,hp _ _ ew rw',ew,by rw[rw'.len];exact hl⟩
   · cases e'
 · cases eg
theorem vJ{p:Option Addr}{Hc H1:Hp}{n y:Nat}{v:V}{te:TE}{f:VF}{d:D}{E:Ends}(he:PuE K ns te f)(hd:f []=some d)(C:Ch p Hc H1 n H)(hn:n<1000)(hs:σ[y]? =some (some v))(g:Gd K p Hc H1 v)(k:∀H',Ch p Hc H1 (n+1) H'→E.nx σ H'):
 (iZ (tBM K "list" je (oZ K (hV y) Fl.wheels.s) (gv te kc))) E σ H:=by
 obtain⟨a,Cc,dx,gs,w,us,rfl,h1,cl,na,lk,hc,hp,hw,hl⟩:=g
 have ha:=C.c1 a _ h1 fun us=>by intro z;cases z
 obtain⟨us',ew,hl'⟩:=C.c3 w us hp hw hl
 refine⟨_,hs,a,Cc,dx,gs,_,rfl,ha,cl,na,lk, .inl ⟨rfl,_,SqL.of ew⟩,he (fun _=>True) [] σ H _ d (fun i d e=>by cases e) hd fun u H2 S2 ru=> ?_⟩
 refine⟨w,us',u,rfl,rfl,S2 _ _ ew,Nat.lt_trans (show us'.length<2000 by omega) (by decide), ?_⟩
 exact k _ ((C.same S2).upd (S2 _ _ ew) hp hc (by rw[List.length_append];show us'.length+1<_;omega) (by omega))
theorem vK{p:Option Addr}{Hc H1:Hp}{n y:Nat}{v:V}{E:Ends}(C:Ch p Hc H1 n H)(hs:σ[y]? =some (some v))(g:Gd K p Hc H1 v)(k:∀H',Ch p Hc H1 n H'→E.nx σ H'):
 (iZ (uH K "list" jy (oZ K (hV y) Fl.wheels.s))) E σ H:=by
 obtain⟨a,Cc,dx,gs,w,us,rfl,h1,cl,na,lk,hc,hp,hw,hl⟩:=g
 have ha:=C.c1 a _ h1 fun us=>by intro z;cases z
 obtain⟨us',ew,hl'⟩:=C.c3 w us hp hw hl
 exact⟨_,hs,a,Cc,dx,gs,_,rfl,ha,cl,na,lk, .inl ⟨rfl,_,SqL.of ew⟩,w,us',rfl,rfl,ew,k _ (C.upd ew hp hc (by rw[List.length_reverse];exact hl') (Nat.le_refl _))⟩
def m9(x:Nat)(F:VF)(fc:BF)(f:VF):SF:=fun env=>(F env).bind fun d=>(jV d).bind fun _=>(f []).bind fun _=>(fc (env.set x (some d))).bind fun b=>if b=true then none else some (.nx (env.set x none))
theorem vL(x:Nat){tc te:TE}{F f:VF}{c:TT}{fc:BF}{t:TS}(hX:PuX K ns tc F)(he:PuE K ns te f)(hc:PuT K ns c fc)(hx:x<fl.length):
 PuS K ns fr lf fl (iP (qq tc (iq x)) (iP (yu c t uv) (iP (iZ (tBM K "list" je (oZ K (hV x) Fl.wheels.s) (gv te kc))) (iZ (uH K "list" jy (oZ K (hV x) Fl.wheels.s)))))) (m9 x F fc f) (fl.set x false):=by
 intro L0 H0 O env σ H E I k
 have hxO:x<O.length:=by rw[←I.fl,List.length_map] at hx;exact hx
 unfold m9 at k
 cases e:F env with
 |none=>rw[e] at k;exact k.elim
 |some d=>
  rw[e] at k
  have k1:Fin K ns fr lf (fl.set x false) L0 H0 O H E ((jV d).bind fun _=>(f []).bind fun _=>(fc (env.set x (some d))).bind fun b=>if b=true then none else some (.nx (env.set x none))):=k
  cases ew:jV d with
  |none=>rw[ew] at k1;exact k1.elim
  |some ws=>
   rw[ew] at k1
   have k2:Fin K ns fr lf (fl.set x false) L0 H0 O H E ((f []).bind fun _=>(fc (env.set x (some d))).bind fun b=>if b=true then none else some (.nx (env.set x none))):=k1
   cases ef:f [] with
   |none=>rw[ef] at k2;exact k2.elim
   |some fd=>
    rw[ef] at k2
    have k3:Fin K ns fr lf (fl.set x false) L0 H0 O H E ((fc (env.set x (some d))).bind fun b=>if b=true then none else some (.nx (env.set x none))):=k2
    cases ec:fc (env.set x (some d)) with
    |none=>rw[ec] at k3;exact k3.elim
    |some b=>
     rw[ec] at k3
     cases b with
     |true=>exact k3.elim
     |false=>
      refine hX _ env σ H _ d I.weak e fun v H1 S1 r=> ?_
      have I1:=(I.same S1).store (i:=x) (r.mono (fun _ q=>I.new_m q) .refl)
      refine hc _ _ _ H1 _ false I1.weak ec fun H2 S2=> ?_
      rw[if_neg Bool.false_ne_true]
      have hs:(σ.set x (some v))[x]? =some (some v):=by rw[List.getElem?_set,if_pos rfl,if_pos (by rw[I.ln];exact hxO)]
      have g:Gd K none H H1 v:=yn r ew fun _ _ _ _ q=>by cases q
      have C2:Ch none H H1 0 H2:=⟨S1.trans S2,fun b o eb _=>S2 _ _ eb,fun q z=>by(cases z),fun b us _ eb l=>⟨us,S2 _ _ eb,by omega⟩⟩
      refine vJ he ef C2 (by omega) hs g fun H3 C3=>vK C3 hs g fun H4 C4=> ?_
      refine k3 _ _ H4 ((Step.same C4.c0).trans (.give x)) (((I.same C4.c0).give x).hide (by rw[List.getElem?_set,if_pos rfl,if_pos hxO]) ⟨by simp,fun j hj=> ?_⟩)
      rw[List.getElem?_set,if_neg (fun z=>hj z.symm)]
def bare:D→D
 | .ob c _=> .ob c []
 |_=> .non
def lq(x y:Nat)(F:VF)(f:VF):SF:=fun env=>(F env).bind fun
 | .lst ds=>(f []).bind fun _=>if ds.length<1000∧(ds.all fun d=>match jV d with|some ws=>apL ds ws|none=>false)=true then some (.nx ((env.set x (some (.lst (ds.map bare)))).set y none)) else none
 |_=>none
theorem xr{d:D}{ws:List D}(h:jV d=some ws):∃c fs,d= .ob c fs:=by
 cases d<;>first|(cases h;done)|exact⟨_,_,rfl⟩
theorem vM{Hc H1:Hp}{M:Addr→Prop}(kp:∀b o,H1 b=some o→(∀us,o≠ .lst us)→H' b=some o){p:Addr}{ps:List V}(hp:H1 p=some (.lst ps))(hM:∀a,Hc a=none→M a){vs:List V}{ds:List D}(r:Rds K ns (fun a=>Hc a=none) H1 vs ds)(h:∀d∈ds,∃c fs,d= .ob c fs):Rds K ns (fun a=>M a∧a≠p) H' vs (ds.map bare):=by
 induction vs generalizing ds with
 |nil=>rw[r.nilL];exact .nil
 |cons v vs ih=>
  obtain⟨d,es,rfl,a,t⟩:=r.consL
  refine .cons ?_ (ih t fun d hd=>h d (List.mem_cons_of_mem _ hd))
  obtain⟨c,fs,rfl⟩:=h d List.mem_cons_self
  cases a with
  |ob l e k rf=>exact .ob ⟨hM _ l,fun z=>by subst z;rw[hp] at e;cases e⟩ (kp _ _ e fun us z=>by cases z) k .nil
theorem vN(x y:Nat){tc te:TE}{F f:VF}(hX:PuX K ns tc F)(he:PuE K ns te f)(hx:x<fl.length)(hxy:x≠y)(hy:fl[y]? =some false):
 PuS K ns fr lf fl (iP (qq tc (iq x)) (yx (fun σ H R=>se K (hV x) σ H R∨(wo K (hV x) σ H R∨yZ (hV x) σ H R)) (iq y) (iP (iZ (tBM K "list" je (oZ K (hV y) Fl.wheels.s) (gv te kc))) (iZ (uH K "list" jy (oZ K (hV y) Fl.wheels.s)))))) (lq x y F f) (fl.set x true):=by
 intro L0 H0 O env σ H E I k
 have hxO:x<O.length:=by rw[←I.fl,List.length_map] at hx;exact hx
 have hyO:=I.free hy
 unfold lq at k
 cases e:F env with
 |none=>rw[e] at k;exact k.elim
 |some d=>
  rw[e] at k
  refine hX _ env σ H _ d I.weak e fun v H1 S1 r=> ?_
  cases r<;>first|(exact k.elim)|skip
  rename_i p vs ds hp hl r
  have k1:Fin K ns fr lf (fl.set x true) L0 H0 O H E ((f []).bind fun _=>if ds.length<1000∧(ds.all fun d=>match jV d with|some ws=>apL ds ws|none=>false)=true then some (.nx ((env.set x (some (.lst (ds.map bare)))).set y none)) else none):=k
  cases ef:f [] with
  |none=>rw[ef] at k1;exact k1.elim
  |some fd=>
   rw[ef] at k1
   have k2:Fin K ns fr lf (fl.set x true) L0 H0 O H E (if ds.length<1000∧(ds.all fun d=>match jV d with|some ws=>apL ds ws|none=>false)=true then some (.nx ((env.set x (some (.lst (ds.map bare)))).set y none)) else none):=k1
   split at k2
   · rename_i hk
     have hw:∀d∈ds,∃ws,jV d=some ws∧apL ds ws=true:=fun d hd=>by
      have:=List.all_eq_true.mp hk.2 d hd
      cases q:jV d with
      |none=>rw[q] at this;cases this
      |some ws=>rw[q] at this;exact⟨ws,rfl,this⟩
     have gd:∀(i:Nat) (v:V),vs[i]? =some v→Gd K (some p) H H1 v:=fun i v ev=>by
      obtain⟨d,ed,rd⟩:=r.at ev
      obtain⟨ws,ew,ea⟩:=hw d (List.mem_of_getElem? ed)
      refine yn rd ew fun w us hw2 rw2 q=> ?_
      cases q
      rw[hl] at hw2
      cases hw2
      rw[zy r rw2] at ea
      cases ea
     have hlen:vs.length<1000:=by rw[r.len];exact hk.1
     have hs:(σ.set x (some (.ref p)))[x]? =some (some (.ref p)):=by rw[List.getElem?_set,if_pos rfl,if_pos (by rw[I.ln];exact hxO)]
     refine .inl ⟨_,hs,p,rfl,⟨vs,SqL.of hl⟩,fun i m σ2 H2=>m=vs.length-i∧i≤vs.length∧vG y (σ.set x (some (.ref p))) σ2∧Ch (some p) H H1 i H2,⟨_,rfl,Nat.zero_le _,⟨rfl,fun _ _=>rfl⟩,⟨S1,fun _ _ eb _=>eb,fun _ _ _ eb=>eb,fun b us _ eb l=>⟨us,eb,by omega⟩⟩⟩, ?_⟩
     rintro i m σ2 H2 ⟨rfl,hle,A,C⟩
     have hp2:=C.c2 p rfl _ hl
     by_cases hi:i<vs.length
     · refine .inr ⟨⟨vs,vs[i],SqL.of hp2,List.getElem?_eq_getElem hi⟩,fun σ' H'=>∃m',m'<vs.length-i∧(m'=vs.length-(i+1)∧i+1≤vs.length∧vG y (σ.set x (some (.ref p))) σ'∧Ch (some p) H H1 (i+1) H'),fun _ _ h=>h, ?_⟩
       rintro v H' ⟨rfl,yv⟩
       have ev:=yv _ (SqL.of hp2)
       have g:=gd i v ev
       have hyl:y<σ2.length:=by
        rw[A.1,List.length_set,I.ln]
        exact(List.getElem?_eq_some_iff.mp hyO).1
       have hs2:(σ2.set y (some v))[y]? =some (some v):=by rw[List.getElem?_set,if_pos rfl,if_pos hyl]
       refine vJ he ef C (by omega) hs2 g fun H3 C3=>vK C3 hs2 g fun H4 C4=> ?_
       refine⟨vs.length-(i+1),by omega,rfl,hi,⟨by rw[List.length_set];exact A.1,fun j hj=> ?_⟩,C4⟩
       rw[List.getElem?_set,if_neg (fun z=>hj z.symm)]
       exact A.2 j hj
     · refine .inl ⟨⟨vs,SqL.of hp2,by omega⟩, ?_⟩
       refine k2 _ _ H2 (.take C.c0 hp) (Iv.hide (I.take C.c0 hp hp2 (vM (M:=fun a=>Nw (Lm L0 H0 O) H a) C.c1 hl (fun a h=> .inr h) r fun d hd=> ?_) hxO) ?_ A)
       · obtain⟨ws,ew,_⟩:=hw d hd
         exact xr ew
       · rw[List.getElem?_set,if_neg hxy];exact hyO
   · exact k2.elim
theorem zC{t1 t2 u:TS}{F G:SF}(a:PuS K ns fr lf fl (iP t1 t2) F fl')(b:PuS K ns fr lf fl' u G fl''):PuS K ns fr lf fl (iP t1 (iP t2 u)) (aT F G) fl'':=fun L0 H0 O env σ H E I k=>have h:=bM a b L0 H0 O env σ H E I k;h
theorem zD{t1 t2 t3 t4 u:TS}{F G:SF}(a:PuS K ns fr lf fl (iP t1 (iP t2 (iP t3 t4))) F fl')(b:PuS K ns fr lf fl' u G fl''):PuS K ns fr lf fl (iP t1 (iP t2 (iP t3 (iP t4 u)))) (aT F G) fl'':=fun L0 H0 O env σ H E I k=>have h:=bM a b L0 H0 O env σ H E I k;h
end
end PD
namespace Kl
open PySem L2 PD
def top(i:Nat):Stmt:=PySem.Challenge.pw_ballastway_k20_joined_again.main.body.getD i (.Pass ⟨0,0,0,0⟩)
def kNames:List Str:=["Cart","Open","Bridge","Road"]
abbrev fI:Stmt:=mm (top 1) 0
local macro_rules | `(tactic| cell_call) => `(tactic| exact ⟨rfl,rfl,rfl,by decide+kernel,rfl,by decide+kernel,by decide+kernel⟩)
local macro_rules | `(tactic| boot_fact) => `(tactic| decide+kernel)
theorem pN:FnScope ["self","name","speed","wheels"] ["self","name","speed","wheels"] (aQ fI):=by cell_call
abbrev eP:Stmt:=top 2
theorem iT:FnScope ["wheels","offsets","wheel"] ["wheels"] (aQ eP):=by cell_call
abbrev de:Stmt:=top 3
theorem d3:FnScope ["weights","offsets","width","sums","first","offset","close"] ["weights","offsets","width"] (aQ de):=by cell_call
theorem kB:CompC (aQ de) ["weights","offsets","width","sums","first","offset","close"] ({kind:=ScopeKind.function,names:=[(Str.ofString ".0",NameKind.local),(Str.ofString "place",NameKind.local),(Str.ofString "offset",NameKind.free),(Str.ofString "offsets",NameKind.free),(Str.ofString "weights",NameKind.free),(Str.ofString "width",NameKind.free)],isGenerator:=false,isCoroutine:=false,more:=[]:Scope}) "place" ["offset","offsets","weights","width"] [5,1,0,2]:=⟨rfl,by boot_fact,by boot_fact,by boot_fact,by boot_fact,by boot_fact,by boot_fact,by boot_fact,by boot_fact⟩
abbrev fG:Stmt:=top 4
theorem qJ:FnScope ["wheels","width"] ["wheels","width"] (aQ fG):=by cell_call
theorem nL:CompC (aQ fG) ["wheels","width"] ({kind:=ScopeKind.function,names:=[(Str.ofString ".0",NameKind.local),(Str.ofString "wheel",NameKind.local)],isGenerator:=false,isCoroutine:=false,more:=[]:Scope}) "wheel" [] []:=⟨rfl,by boot_fact,by boot_fact,by boot_fact,by boot_fact,by boot_fact,by boot_fact,by boot_fact,by boot_fact⟩
abbrev i6:Stmt:=top 5
theorem lr:FnScope ["carts","wheels","cart"] ["carts"] (aQ i6):=by cell_call
abbrev ls:Stmt:=top 6
theorem xt:FnScope ["bridge","wheels"] ["bridge","wheels"] (aQ ls):=by cell_call
abbrev fJ:Stmt:=mm (top 11) 0
theorem pO:FnScope ["self","length"] ["self","length"] (aQ fJ):=by cell_call
abbrev d7:Stmt:=mm (top 12) 0
theorem nb:FnScope ["self","name","length","bears","wide","most"] ["self","name","length","bears","wide","most"] (aQ d7):=by cell_call
abbrev fK:Stmt:=mm (top 13) 0
theorem pP:FnScope ["self","pieces","rounds","shuts"] ["self","pieces","rounds","shuts"] (aQ fK):=by cell_call
abbrev dS:Stmt:=top 14
theorem nM:FnScope ["road"] ["road"] (aQ dS):=by cell_call
theorem lW:CompC (aQ dS) ["road"] ({kind:=ScopeKind.function,names:=[(Str.ofString ".0",NameKind.local),(Str.ofString "piece",NameKind.local),(Str.ofString "isinstance",NameKind.globalImplicit),(Str.ofString "Bridge",NameKind.globalImplicit)],isGenerator:=false,isCoroutine:=false,more:=[]:Scope}) "piece" [] []:=⟨rfl,by boot_fact,by boot_fact,by boot_fact,by boot_fact,by boot_fact,by boot_fact,by boot_fact,by boot_fact⟩
abbrev gy:Stmt:=top 15
theorem lR:FnScope ["road","name","told"] ["road","name"] (aQ gy):=by cell_call
abbrev dF:Stmt:=top 17
theorem dI:FnScope ["choices","told","some","longer","ahead"] ["choices"] (aQ dF):=by cell_call
theorem lu:CompC (aQ dF) ["choices","told","some","longer","ahead"] ({kind:=ScopeKind.function,names:=[(Str.ofString ".0",NameKind.local),(Str.ofString "one",NameKind.local),(Str.ofString "ahead",NameKind.free)],isGenerator:=false,isCoroutine:=false,more:=[]:Scope}) "one" ["ahead"] [4]:=⟨rfl,by boot_fact,by boot_fact,by boot_fact,by boot_fact,by boot_fact,by boot_fact,by boot_fact,by boot_fact⟩
abbrev fL:Stmt:=top 18
theorem pQ:FnScope ["road","bridge"] ["road","bridge"] (aQ fL):=by cell_call
abbrev gz:Stmt:=top 19
theorem rR:FnScope ["road"] ["road"] (aQ gz):=by cell_call
theorem pR:CompC (aQ gz) ["road"] ({kind:=ScopeKind.function,names:=[(Str.ofString ".0",NameKind.local),(Str.ofString "bridge",NameKind.local),(Str.ofString "ways_past",NameKind.globalImplicit),(Str.ofString "road",NameKind.free)],isGenerator:=false,isCoroutine:=false,more:=[]:Scope}) "bridge" ["road"] [0]:=⟨rfl,by boot_fact,by boot_fact,by boot_fact,by boot_fact,by boot_fact,by boot_fact,by boot_fact,by boot_fact⟩
abbrev df:Stmt:=top 20
theorem lX:FnScope ["road","way"] ["road","way"] (aQ df):=by cell_call
theorem kC:CompC (aQ df) ["road","way"] ({kind:=ScopeKind.function,names:=[(Str.ofString ".0",NameKind.local),(Str.ofString "bridge",NameKind.local)],isGenerator:=false,isCoroutine:=false,more:=[]:Scope}) "bridge" [] []:=⟨rfl,by boot_fact,by boot_fact,by boot_fact,by boot_fact,by boot_fact,by boot_fact,by boot_fact,by boot_fact⟩
abbrev dJ:Stmt:=top 21
theorem lY:FnScope ["road","piece","over"] ["road","piece","over"] (aQ dJ):=by cell_call
abbrev ic:Stmt:=top 22
theorem gA:FnScope ["road","way","over","legs","place","piece"] ["road","way"] (aQ ic):=by cell_call
abbrev cP:Stmt:=top 24
theorem lv:FnScope ["road","way"] ["road","way"] (aQ cP):=by cell_call
theorem j5:CompC (aQ cP) ["road","way"] ({kind:=ScopeKind.function,names:=[(Str.ofString ".0",NameKind.local),(Str.ofString "leg",NameKind.local)],isGenerator:=false,isCoroutine:=false,more:=[]:Scope}) "leg" [] []:=⟨rfl,by boot_fact,by boot_fact,by boot_fact,by boot_fact,by boot_fact,by boot_fact,by boot_fact,by boot_fact⟩
abbrev eF:Stmt:=top 25
theorem pS:FnScope ["bridges","wheels"] ["bridges","wheels"] (aQ eF):=by cell_call
theorem nc:CompC (aQ eF) ["bridges","wheels"] ({kind:=ScopeKind.function,names:=[(Str.ofString ".0",NameKind.local),(Str.ofString "bridge",NameKind.local),(Str.ofString "fits",NameKind.globalImplicit),(Str.ofString "wheels",NameKind.free)],isGenerator:=false,isCoroutine:=false,more:=[]:Scope}) "bridge" ["wheels"] [1]:=⟨rfl,by boot_fact,by boot_fact,by boot_fact,by boot_fact,by boot_fact,by boot_fact,by boot_fact,by boot_fact⟩
abbrev dg:Stmt:=top 26
theorem eQ:FnScope ["bridges","wheels","place","wheel","bridge"] ["bridges","wheels"] (aQ dg):=by cell_call
abbrev ie:Stmt:=top 27
theorem j6:FnScope ["bridges","wheels","first","end"] ["bridges","wheels","first"] (aQ ie):=by cell_call
abbrev i7:Stmt:=top 28
theorem ig:FnScope ["road","cart","way","bridges","carts","first","end"] ["road","cart","way"] (aQ i7):=by cell_call
abbrev gB:Stmt:=top 30
theorem qK:FnScope ["_law_script","_law_k"] ["_law_script","_law_k"] (aQ gB):=by cell_call
abbrev ij:Stmt:=top 31
theorem ng:FnScope ["_law_cell_here","_law_one","_law_prime","_law_drawn_here"] ["_law_cell_here","_law_one","_law_prime"] (aQ ij):=by cell_call
abbrev eR:Stmt:=top 32
theorem cC:FnScope ["_law_cell_here","_law_many","_law_wheels_here","_law_left","_law_k","_law_drawn_here","_law_most","_law_gap","_law_high","_law_low"] ["_law_cell_here","_law_many"] (aQ eR):=by cell_call
abbrev dU:Stmt:=top 33
theorem nN:FnScope ["_law_wheels_here"] ["_law_wheels_here"] (aQ dU):=by cell_call
theorem lZ:CompC (aQ dU) ["_law_wheels_here"] ({kind:=ScopeKind.function,names:=[(Str.ofString ".0",NameKind.local),(Str.ofString "_law_k",NameKind.local),(Str.ofString "sum",NameKind.globalImplicit),(Str.ofString "_law_wheels_here",NameKind.free)],isGenerator:=false,isCoroutine:=false,more:=[]:Scope}) "_law_k" ["_law_wheels_here"] [0]:=⟨rfl,by boot_fact,by boot_fact,by boot_fact,by boot_fact,by boot_fact,by boot_fact,by boot_fact,by boot_fact⟩
theorem ma:CompC ({kind:=ScopeKind.function,names:=[(Str.ofString ".0",NameKind.local),(Str.ofString "_law_k",NameKind.local),(Str.ofString "sum",NameKind.globalImplicit),(Str.ofString "_law_wheels_here",NameKind.cell)],isGenerator:=false,isCoroutine:=false,more:=[]:Scope}) ["_law_k","_law_wheels_here"] ({kind:=ScopeKind.function,names:=[(Str.ofString ".0",NameKind.local),(Str.ofString "_law_wheel",NameKind.local)],isGenerator:=false,isCoroutine:=false,more:=[]:Scope}) "_law_wheel" [] []:=⟨rfl,by boot_fact,by boot_fact,by boot_fact,by boot_fact,by boot_fact,by boot_fact,by boot_fact,by boot_fact⟩
abbrev eG:Stmt:=top 34
theorem eS:FnScope ["_law_wheels_here","_law_width","_law_which","_law_places_here","_law_most","_law_k","_law_near"] ["_law_wheels_here","_law_width","_law_which"] (aQ eG):=by cell_call
theorem nh:CompC (aQ eG) ["_law_wheels_here","_law_width","_law_which","_law_places_here","_law_most","_law_k","_law_near"] ({kind:=ScopeKind.function,names:=[(Str.ofString ".0",NameKind.local),(Str.ofString "_law_j",NameKind.local),(Str.ofString "_law_k",NameKind.free),(Str.ofString "_law_places_here",NameKind.free),(Str.ofString "_law_wheels_here",NameKind.free),(Str.ofString "_law_which",NameKind.free),(Str.ofString "_law_width",NameKind.free)],isGenerator:=false,isCoroutine:=false,more:=[]:Scope}) "_law_j" ["_law_k","_law_places_here","_law_wheels_here","_law_which","_law_width"] [5,3,0,2,1]:=⟨rfl,by boot_fact,by boot_fact,by boot_fact,by boot_fact,by boot_fact,by boot_fact,by boot_fact,by boot_fact⟩
abbrev eT:Stmt:=top 35
theorem iU:FnScope ["_law_pieces_here","_law_found","_law_piece"] ["_law_pieces_here"] (aQ eT):=by cell_call
abbrev eH:Stmt:=top 36
theorem pT:FnScope ["_law_found","_law_due"] ["_law_found","_law_due"] (aQ eH):=by cell_call
theorem iz:CompCT (aQ eH) ["_law_found","_law_due"] ({kind:=ScopeKind.function,names:=[(Str.ofString ".0",NameKind.local),(Str.ofString "_law_one",NameKind.local),(Str.ofString "_law_other",NameKind.local),(Str.ofString "_law_same",NameKind.globalImplicit)],isGenerator:=false,isCoroutine:=false,more:=[]:Scope}) ["_law_one","_law_other"] [] []:=⟨rfl,by boot_fact,by boot_fact,by boot_fact,by boot_fact,by boot_fact,by boot_fact,by boot_fact,by boot_fact⟩
abbrev gC:Stmt:=top 37
theorem qL:FnScope ["_law_found","_law_due"] ["_law_found","_law_due"] (aQ gC):=by cell_call
abbrev dW:Stmt:=top 38
theorem cM:FnScope ["_law_cell_here","_law_wheels_here","_law_name","_law_drawn_here","_law_first","_law_part","_law_length","_law_wide","_law_single","_law_bears","_law_most"] ["_law_cell_here","_law_wheels_here","_law_name"] (aQ dW):=by cell_call
theorem md:CompC (aQ dW) ["_law_cell_here","_law_wheels_here","_law_name","_law_drawn_here","_law_first","_law_part","_law_length","_law_wide","_law_single","_law_bears","_law_most"] ({kind:=ScopeKind.function,names:=[(Str.ofString ".0",NameKind.local),(Str.ofString "_law_wheel",NameKind.local)],isGenerator:=false,isCoroutine:=false,more:=[]:Scope}) "_law_wheel" [] []:=⟨rfl,by boot_fact,by boot_fact,by boot_fact,by boot_fact,by boot_fact,by boot_fact,by boot_fact,by boot_fact⟩
abbrev d8:Stmt:=top 39
theorem nj:FnScope ["_law_cart","_law_name","_law_speed","_law_wheels_here"] ["_law_cart","_law_name","_law_speed","_law_wheels_here"] (aQ d8):=by cell_call
abbrev dP:Stmt:=top 40
theorem cW:FnScope ["_law_road","_law_cart","_law_way","_law_carts","_law_some","_law_k","_law_bridge","_law_one","_law_both","_law_again"] ["_law_road","_law_cart","_law_way"] (aQ dP):=by cell_call
theorem nk:CompC (aQ dP) ["_law_road","_law_cart","_law_way","_law_carts","_law_some","_law_k","_law_bridge","_law_one","_law_both","_law_again"] ({kind:=ScopeKind.function,names:=[(Str.ofString ".0",NameKind.local),(Str.ofString "_law_bridge",NameKind.local),(Str.ofString "fits",NameKind.globalImplicit),(Str.ofString "_law_one",NameKind.free)],isGenerator:=false,isCoroutine:=false,more:=[]:Scope}) "_law_bridge" ["_law_one"] [7]:=⟨rfl,by boot_fact,by boot_fact,by boot_fact,by boot_fact,by boot_fact,by boot_fact,by boot_fact,by boot_fact⟩
theorem nr:CompC (aQ dP) ["_law_road","_law_cart","_law_way","_law_carts","_law_some","_law_k","_law_bridge","_law_one","_law_both","_law_again"] ({kind:=ScopeKind.function,names:=[(Str.ofString ".0",NameKind.local),(Str.ofString "_law_bridge",NameKind.local),(Str.ofString "fits",NameKind.globalImplicit),(Str.ofString "_law_both",NameKind.free)],isGenerator:=false,isCoroutine:=false,more:=[]:Scope}) "_law_bridge" ["_law_both"] [8]:=⟨rfl,by boot_fact,by boot_fact,by boot_fact,by boot_fact,by boot_fact,by boot_fact,by boot_fact,by boot_fact⟩
abbrev cX:Stmt:=top 41
theorem gf:FnScope ["_law_road","_law_cart","_law_way","_law_wheels_here","_law_due","_law_carts","_law_one"] ["_law_road","_law_cart","_law_way","_law_wheels_here"] (aQ cX):=by cell_call
theorem lx:CompC (aQ cX) ["_law_road","_law_cart","_law_way","_law_wheels_here","_law_due","_law_carts","_law_one"] ({kind:=ScopeKind.function,names:=[(Str.ofString ".0",NameKind.local),(Str.ofString "_law_one",NameKind.local)],isGenerator:=false,isCoroutine:=false,more:=[]:Scope}) "_law_one" [] []:=⟨rfl,by boot_fact,by boot_fact,by boot_fact,by boot_fact,by boot_fact,by boot_fact,by boot_fact,by boot_fact⟩
theorem ly:CompC (aQ cX) ["_law_road","_law_cart","_law_way","_law_wheels_here","_law_due","_law_carts","_law_one"] ({kind:=ScopeKind.function,names:=[(Str.ofString ".0",NameKind.local),(Str.ofString "_law_one",NameKind.local)],isGenerator:=false,isCoroutine:=false,more:=[]:Scope}) "_law_one" [] []:=⟨rfl,by boot_fact,by boot_fact,by boot_fact,by boot_fact,by boot_fact,by boot_fact,by boot_fact,by boot_fact⟩
abbrev fM:Stmt:=top 42
theorem kD:FnScope ["_law_script","_law_k","_law_cell_here"] ["_law_script","_law_k"] (aQ fM):=by cell_call
abbrev jX:Stmt:=top 43
theorem eI:FnScope ["_law_script","_law_cell_here","_law_drawn_here","_law_wheels_here","_law_pieces_here","_law_rounds","_law_k","_law_one","_law_road","_law_cart","_law_way","_law_carts","_law_due","_law_found"] ["_law_script"] (aQ jX):=by cell_call
theorem vO:CompC (aQ jX) ["_law_script","_law_cell_here","_law_drawn_here","_law_wheels_here","_law_pieces_here","_law_rounds","_law_k","_law_one","_law_road","_law_cart","_law_way","_law_carts","_law_due","_law_found"] ({kind:=ScopeKind.function,names:=[(Str.ofString ".0",NameKind.local),(Str.ofString "_law_k",NameKind.local),(Str.ofString "_law_drawn",NameKind.globalImplicit),(Str.ofString "_law_script",NameKind.free)],isGenerator:=false,isCoroutine:=false,more:=[]:Scope}) "_law_k" ["_law_script"] [0]:=⟨rfl,by boot_fact,by boot_fact,by boot_fact,by boot_fact,by boot_fact,by boot_fact,by boot_fact,by boot_fact⟩
noncomputable def fN(F_law_same:List D→Option D):SF:=
 (aT (ifS (bx (bD (ah (aa (isT "list")) (ae (vD 1) ak))) (bo (bD (ah (aa (isT "list")) (ae (vD 0) ak))))) (bd (cD (.bl false)))
 nxS)
 (aT (ifS (bx (bD (ah (aa (isT "tuple")) (ae (vD 1) ak))) (bo (bD (ah (aa (isT "tuple")) (ae (vD 0) ak))))) (bd (cD (.bl false)))
 nxS)
 (aT (ifS (bD (oD (aa neD) (ah (aa fW) (ae (vD 0) ak)) (ah (aa fW) (ae (vD 1) ak)))) (bd (cD (.bl false)))
 nxS)
 (bd (ah (aa nK) (ae (vj 2 (iaD (aa va) (ae (vD 0) (ae (vD 1) ak))) dR (ah F_law_same (ae (vD 0) (ae (vD 1) ak))) []) ak))))))
noncomputable def iA(F_law_alike:List D→Option D):SF:=
 (aT (ifS (bD (oD (aa isD) (vD 1) (cD .non))) (bd (oD (aa isD) (vD 0) (cD .non)))
 nxS)
 (aT (ifS (bD (ah (aa pG) (ae (vD 1) ak))) (bd (bz (ah (aa pG) (ae (vD 0) ak)) (ah F_law_alike (ae (vD 0) (ae (vD 1) ak)))))
 nxS)
 (aT (ifS (bD (ah (aa (isT "str")) (ae (vD 1) ak))) (bd (bz (ah (aa (isT "str")) (ae (vD 0) ak)) (oD (aa eqD) (vD 0) (vD 1))))
 nxS)
 (bd (bz (ah (aa (isT "int")) (ae (vD 0) ak)) (bz (oD (aa eqD) (ah (aa (isT "bool")) (ae (vD 0) ak)) (ah (aa (isT "bool")) (ae (vD 1) ak))) (oD (aa eqD) (vD 0) (vD 1))))))))
noncomputable def eJ:Nat→(List D→Option D)×(List D→Option D)
 |0=>(fun _=>none,fun _=>none)
 |n+1=>(aa (ba 2 (fN (eJ n).2)),aa (ba 2 (iA (eJ n).1)))
noncomputable abbrev F_law_alike:List D→Option D:=(eJ 14).1
noncomputable abbrev F_law_same:List D→Option D:=(eJ 14).2
abbrev jJ(K:W.Frag):Sp:=spP K kNames .no 2 F_law_same
noncomputable def i8:SF:=
 (aT (a7 3 (mk [false,false,false,false] (oD (aa fg) (oD (aa pA) (oD (aa cF) (oD (aa cF) (oD (aa cF) (oD (aa fg) (vD 0) (vD 2)) (cD (.int 12345))) (oD (aa pA) (oD (aa pA) (cD (.int 31)) (vD 1)) (vD 1))) (vD 1)) (cD (.int 48271))) (vD 2))))
 (bd (oD (aa eE) (oD (aa fg) (oD (aa pA) (vD 3) (vD 3)) (cD (.int 998244353))) (cD (.int 3)))))
noncomputable def fO:List D→Option D:=aa (ba 4 i8)
abbrev gD(K:W.Frag):Sp:=spP K kNames .no 3 fO
abbrev Fa:List Bool:=[false,false,true,false,false,false,false,false,false,false]
abbrev Fb:List Bool:=[false,false,false,false,false,false,false,false,false,false]
abbrev Fc:List Bool:=[false,false,false,false,false]
abbrev Fd:List Bool:=[false,true,false,false,false]
abbrev Fe:List Bool:=[false,false,false,true,false]
abbrev Ff:List Bool:=[false,false,false,false,false,false,false]
abbrev Fg:List Bool:=[false,false,false,false,false,false,false,false,false,false,false]
abbrev Fh:List Bool:=[false,false,false,true,false,false]
abbrev Fi:List Bool:=[false,false,false,false,false,false]
abbrev Fj:List Bool:=[false,false,false,true,false,false,false]
abbrev Fk:List Bool:=[false,false,false,false,true,false,false]
abbrev Fm:List Bool:=[false,false,false,false,true,false,false,false,false,false]
abbrev Fn:List Bool:=[false,false,false,false,false,true,false,false,false,false,false,false,false,false]
abbrev Fo:List Bool:=[false,false,false,false,false,false,false,false,false,false,false,false,false,false]
noncomputable abbrev lB1:SF:=(aT (a7 5 (mk Fa (ah fO (ae (vD 0) (ae (oD (aa cF) (cD (.int 80)) (vD 4)) (ae (cD (.int 1000003)) ak)))))) (aT (a7 6 (mk Fa (ah (aa mS) (ae (cD (.int 100)) (ae (oD (aa nJ) (vD 3) (oD (aa nJ) (oD (aa nJ) (vD 1) (cD (.int 1))) (vD 4))) ak))))) (aT (a7 7 (mk Fa (oD (aa ixD) (bi (ae (cD (.int 1)) (ae (vD 6) (ae (oD (aa cF) (cD (.int 1)) (oD (aa fg) (oD (aa eE) (vD 5) (cD (.int 4))) (vD 6))) (ae (oD (aa cF) (cD (.int 1)) (oD (aa fg) (oD (aa eE) (vD 5) (cD (.int 4))) (ah (aa mS) (ae (vD 6) (ae (cD (.int 30)) ak))))) ak))))) (oD (aa fg) (vD 5) (cD (.int 4)))))) (aT (a7 8 (mk Fa (oD (aa ixD) (bi (ae (oD (aa fg) (oD (aa eE) (vD 5) (cD (.int 16))) (cD (.int 10))) (ae (oD (aa fg) (oD (aa eE) (vD 5) (cD (.int 16))) (cD (.int 1000))) (ae (cD (.int 1000000)) (ae (oD (aa fg) (oD (aa cF) (vD 0) (vD 5)) (cD (.int 1000001))) ak))))) (oD (aa fg) (oD (aa eE) (vD 5) (cD (.int 4))) (cD (.int 4)))))) (aT (a7 9 (mk Fa (oD (aa ixD) (bi (ae (vD 8) (ae (cD (.int 0)) (ae (oD (aa fg) (oD (aa eE) (vD 5) (cD (.int 64))) (oD (aa cF) (vD 8) (cD (.int 1)))) ak)))) (oD (aa fg) (oD (aa eE) (vD 5) (cD (.int 32))) (cD (.int 3)))))) (aT (bq 2 (mk Fa (bj (ae (vD 7) (ae (vD 9) (ae (vD 8) ak)))))) (ifS (bD (oD (aa gtD) (vD 4) (cD (.int 0)))) (a7 3 (mk Fa (oD (aa nJ) (vD 3) (vD 7)))) nxS)))))))
noncomputable def eU:SF:=
 (aT (a7 2 (mk Fb (bi ak)))
 (aT (a7 3 (mk Fa (cD (.int 200))))
 (aT (bn (mk Fa (iaD (aa iL) (ae (vD 1) ak))) (nmG 4)
 lB1)
 (bp 2))))
noncomputable def gh:List D→Option D:=aa (bg 10 eU)
abbrev gK(K:W.Frag):Sp:=spP K kNames .yes 2 gh
noncomputable def d9:SF:=
 (aT (a7 1 (mk Fc (bi (ae (bj ak) ak))))
 (aT (bn (mk Fd (itD (vD 0))) (nmG 2)
 (aT (a7 3 (mk Fd (bi ak)))
 (aT (bn (mk Fe (itD (vD 1))) (nmG 4)
 (bA 3 (mk Fe (bX (itD (vD 2)) dR (oD (aa cF) (vD 1) (bj (ae (vD 0) ak))) [4]))))
 (aY 1 3))))
 (bp 1)))
noncomputable def gL:List D→Option D:=aa (bg 5 d9)
abbrev iB(K:W.Frag):Sp:=spP K kNames .yes 1 gL
noncomputable def eK:SF:=
 (aT (bn (mk [false,false,false] (itD (uD (aa (bU .rounds)) (vD 0)))) (nmG 2)
 (ifS (bD (oD (aa eqD) (oD (aa ixD) (vD 2) (cD (.int 0))) (vD 1))) (bd (oD (aa ixD) (vD 2) (cD (.int 1))))
 nxS))
 (bd (cD .non)))
noncomputable def iC:List D→Option D:=aa (ba 3 eK)
abbrev iN(K:W.Frag):Sp:=spP K kNames .no 2 iC
noncomputable def fP:SF:=
 (aT (ifS (bD (oD (aa isD) (ah iC (ae (vD 0) (ae (uD (aa (bU .name)) (vD 1)) ak))) (cD .non))) (bd (bj (ae (cD (.bl true)) ak)))
 nxS)
 (bd (bj (ae (cD (.bl true)) (ae (cD (.bl false)) ak)))))
noncomputable def fQ:List D→Option D:=aa (ba 2 fP)
abbrev jm(K:W.Frag):Sp:=spP K kNames .no 2 fQ
noncomputable def eV:SF:=
 (bd (bX (itD (uD (aa (bU .pieces)) (vD 0))) (bD (ah (aa (isC .Bridge)) (ae (vD 0) ak))) (vD 0) []))
noncomputable def dy:List D→Option D:=aa (bg 1 eV)
abbrev fq(K:W.Frag):Sp:=spP K kNames .yes 1 dy
noncomputable def ik:SF:=
 (bd (ah gL (ae (bX (itD (ah dy (ae (vD 0) ak))) dR (ah fQ (ae (vD 1) (ae (vD 0) ak))) [0]) ak)))
noncomputable def jR:List D→Option D:=aa (bg 1 ik)
abbrev j7(K:W.Frag):Sp:=spP K kNames .yes 1 jR
noncomputable def jK:List D→Option (List (Fl×D)):=oz [(.name,flatV ((vD 1))),(.speed,flatV ((vD 2))),(.wheels,xn ((ah (aa jB) (ae (vD 3) ak))))]
abbrev eW(K:W.Frag):Sp:=spN K kNames .Cart 3 jK
noncomputable def i9:SF:=
 (aT (a7 1 (mk [false,false,false] (bi ak)))
 (aT (bn (mk [false,true,false] (itD (vD 0))) (nmG 2)
 (bA 1 (mk [false,true,false] (uD (aa (bU .wheels)) (vD 2)))))
 (bd (fo .Cart jK (ae (uD (aa (bU .name)) (oD (aa ixD) (vD 0) (cD (.int 0)))) (ae (uD (aa (bU .speed)) (oD (aa ixD) (vD 0) (cD (.int 0)))) (ae (vD 1) ak)))))))
noncomputable def iD:List D→Option D:=aa (bg 3 i9)
abbrev jS(K:W.Frag):Sp:=spP K kNames .nw 1 iD
noncomputable def gE:SF:=
 (aT (ifS (bD (oD (aa ltD) (vD 1) (ah (aa fW) (ae (vD 0) ak)))) (bd (oD (aa ixD) (vD 0) (vD 1)))
 nxS)
 (bd (cD (.int 0))))
noncomputable def dX:List D→Option D:=aa (ba 2 gE)
abbrev iO(K:W.Frag):Sp:=spP K kNames .no 2 dX
noncomputable def pU:List D→Option (List (Fl×D)):=oz [(.length,(vD 1))]
abbrev jn(K:W.Frag):Sp:=spI K kNames .Open 1 pU
noncomputable def kE:List D→Option (List (Fl×D)):=oz [(.name,(vD 1)),(.length,(vD 2)),(.bears,(vD 3)),(.wide,(vD 4)),(.most,(vD 5))]
abbrev iE(K:W.Frag):Sp:=spI K kNames .Bridge 5 kE
noncomputable def eX:SF:=
 (aT (a7 1 (mk [false,false,false] (bi ak)))
 (aT (bn (mk [false,true,false] (itD (vD 0))) (nmG 2)
 (ifS (bD (oD (aa eqD) (oD (aa ixD) (vD 2) (cD (.int 0))) (cD (.str (Str.ofString "open"))))) (bq 1 (mk [false,true,false] (fo .Open pU (ae (oD (aa ixD) (vD 2) (cD (.int 1))) ak))))
 (bq 1 (mk [false,true,false] (fo .Bridge kE (ae (oD (aa ixD) (vD 2) (cD (.int 1))) (ae (oD (aa ixD) (vD 2) (cD (.int 2))) (ae (oD (aa ixD) (vD 2) (cD (.int 3))) (ae (oD (aa ixD) (vD 2) (cD (.int 4))) (ae (oD (aa ixD) (vD 2) (cD (.int 5))) ak))))))))))
 (bp 1)))
noncomputable def gi:List D→Option D:=aa (bg 3 eX)
abbrev iV(K:W.Frag):Sp:=spP K kNames .yes 1 gi
noncomputable def fR:SF:=
 (aT (a7 2 (mk [false,false,false] (oD (aa cF) (ah dX (ae (vD 0) (ae (oD (aa cF) (cD (.int 4)) (vD 1)) ak))) (oD (aa pA) (cD (.int 65537)) (vD 1)))))
 (bd (fo .Cart jK (ae (oD (aa ixD) (cD (.str (Str.ofString "abcde"))) (vD 1)) (ae (oD (aa cF) (cD (.int 1)) (oD (aa fg) (vD 2) (cD (.int 12)))) (ae (ah gh (ae (vD 2) (ae (oD (aa cF) (cD (.int 1)) (oD (aa fg) (ah fO (ae (vD 2) (ae (cD (.int 106)) (ae (cD (.int 1000033)) ak)))) (cD (.int 3)))) ak))) ak))))))
noncomputable def eL:List D→Option D:=aa (ba 3 fR)
abbrev jo(K:W.Frag):Sp:=spP K kNames .no 2 eL
noncomputable def eh:SF:=
 (aT (ifS (bo (bD (ah (aa (isC .Cart)) (ae (vD 0) ak)))) (bd (cD (.bl false)))
 nxS)
 (bd (ah F_law_same (ae (bj (ae (uD (aa (bU .name)) (vD 0)) (ae (uD (aa (bU .speed)) (vD 0)) (ae (uD (aa (bU .wheels)) (vD 0)) ak)))) (ae (bj (ae (vD 1) (ae (vD 2) (ae (vD 3) ak)))) ak)))))
noncomputable def cY:List D→Option D:=aa (ba 4 eh)
abbrev eM(K:W.Frag):Sp:=spP K kNames .no 4 cY
noncomputable def eY:SF:=
 (bd (bX (iaD (aa iL) (ae (ah (aa fW) (ae (vD 0) ak)) ak)) dR (ah (aa qD) (ae (bX (itD (slD (aa ji) (vD 1) (atO (cD (.int 1))) (atO (oD (aa cF) (vD 0) (cD (.int 1)))))) dR (oD (aa ixD) (vD 0) (cD (.int 0))) []) ak)) [0]))
noncomputable def h7:List D→Option D:=aa (bg 1 eY)
abbrev iW(K:W.Frag):Sp:=spP K kNames .yes 1 h7
noncomputable abbrev lB4:SF:=(aT (a7 6 (mk Ff (bX (iaD (aa ko) (ae (vD 5) (ae (ah (aa fW) (ae (vD 0) ak)) ak))) (bD (oD (aa ltD) (oD (aa ixD) (vD 2) (vD 0)) (oD (aa cF) (oD (aa ixD) (vD 2) (vD 1)) (vD 5)))) (oD (aa ixD) (oD (aa ixD) (vD 3) (vD 0)) (vD 4)) [5,3,0,2,1]))) (a7 4 (mk Ff (ah (aa lO) (ae (vD 4) (ae (ah (aa qD) (ae (vD 6) ak)) ak))))))
noncomputable def fS:SF:=
 (aT (a7 3 (mk Ff (ah h7 (ae (vD 0) ak))))
 (aT (a7 4 (mk Ff (cD (.int 0))))
 (aT (bn (mk Ff (iaD (aa iL) (ae (ah (aa fW) (ae (vD 0) ak)) ak))) (nmG 5)
 lB4)
 (bd (vD 4)))))
noncomputable def gQ:List D→Option D:=aa (ba 7 fS)
abbrev jp(K:W.Frag):Sp:=spP K kNames .no 3 gQ
noncomputable def eZ:SF:=
 (aT (a7 3 (mk Fg (ah fO (ae (vD 0) (ae (cD (.int 100)) (ae (cD (.int 1000037)) ak))))))
 (aT (a7 4 (mk Fg (oD (aa fg) (oD (aa eE) (vD 3) (cD (.int 5))) (ah (aa fW) (ae (vD 1) ak)))))
 (aT (a7 5 (mk Fg (slD (aa ji) (vD 1) (atO (vD 4)) (atO (oD (aa cF) (oD (aa cF) (vD 4) (cD (.int 1))) (oD (aa fg) (oD (aa eE) (vD 3) (cD (.int 40))) (cD (.int 4))))))))
 (aT (a7 6 (mk Fg (oD (aa ixD) (bi (ae (cD (.int 1)) (ae (cD (.int 1000)) (ae (oD (aa cF) (cD (.int 1)) (oD (aa fg) (oD (aa eE) (vD 3) (cD (.int 300))) (cD (.int 200)))) (ae (oD (aa cF) (cD (.int 1)) (oD (aa fg) (oD (aa eE) (vD 3) (cD (.int 300))) (cD (.int 60)))) (ae (oD (aa cF) (cD (.int 1)) (oD (aa fg) (oD (aa eE) (vD 3) (cD (.int 300))) (cD (.int 220)))) ak)))))) (oD (aa fg) (vD 3) (cD (.int 5))))))
 (aT (a7 7 (mk Fg (oD (aa ixD) (bi (ae (cD (.int 1)) (ae (cD (.int 200)) (ae (oD (aa cF) (cD (.int 1)) (oD (aa fg) (oD (aa eE) (vD 3) (cD (.int 300))) (cD (.int 60)))) (ae (cD (.int 200)) ak))))) (oD (aa fg) (oD (aa eE) (vD 3) (cD (.int 70000))) (cD (.int 4))))))
 (aT (a7 8 (mk Fg (ah (aa lO) (ae (cD (.int 1)) (ae (ah (aa oA) (ae (bX (itD (vD 1)) dR (oD (aa ixD) (vD 0) (cD (.int 2))) []) ak)) ak)))))
 (aT (a7 9 (mk Fg (ah (aa lO) (ae (vD 8) (ae (ah gQ (ae (vD 5) (ae (vD 6) (ae (cD (.int 2)) ak)))) ak)))))
 (aT (a7 10 (mk Fg (oD (aa cF) (ah (aa lO) (ae (vD 8) (ae (ah gQ (ae (vD 5) (ae (vD 7) (ae (cD (.int 2)) ak)))) ak))) (oD (aa fg) (oD (aa eE) (vD 3) (cD (.int 9))) (cD (.int 3))))))
 (bd (bj (ae (cD (.str (Str.ofString "bridge"))) (ae (vD 2) (ae (vD 6) (ae (ah (aa mS) (ae (cD (.int 10000000)) (ae (vD 9) ak))) (ae (vD 7) (ae (ah (aa mS) (ae (cD (.int 10000000)) (ae (vD 10) ak))) ak))))))))))))))))
noncomputable def h9:List D→Option D:=aa (ba 11 eZ)
abbrev iX(K:W.Frag):Sp:=spP K kNames .no 3 h9
noncomputable def dL:SF:=
 (bd (ah (aa sT) (ae (bX (itD (ah dy (ae (vD 0) ak))) dR (uD (aa (bU .name)) (vD 0)) []) (ae (vD 1) ak))))
noncomputable def gj:List D→Option D:=aa (ba 2 dL)
abbrev g6(K:W.Frag):Sp:=spP K kNames .no 2 gj
noncomputable def cO:SF:=
 (aT (ifS (orB (bD (ah (aa (isC .Open)) (ae (vD 1) ak))) (bD (oD (aa pM) (vD 2) (uD (aa (bU .name)) (vD 1))))) (bd (uD (aa (bU .length)) (vD 1)))
 nxS)
 (bd (ah iC (ae (vD 0) (ae (uD (aa (bU .name)) (vD 1)) ak)))))
noncomputable def dM:List D→Option D:=aa (ba 3 cO)
abbrev g9(K:W.Frag):Sp:=spP K kNames .no 3 dM
noncomputable abbrev lB0:SF:=(aT (ifS (bx (bD (ah (aa (isC .Bridge)) (ae (vD 5) ak))) (bD (oD (aa pM) (vD 2) (uD (aa (bU .name)) (vD 5))))) (bq 3 (mk Fh (bj (ae (vD 5) (ae (vD 4) ak))))) nxS) (a7 4 (mk Fh (oD (aa cF) (vD 4) (ah dM (ae (vD 0) (ae (vD 5) (ae (vD 2) ak))))))))
noncomputable def il:SF:=
 (aT (a7 2 (mk Fi (ah gj (ae (vD 0) (ae (vD 1) ak)))))
 (aT (a7 3 (mk Fi (bi ak)))
 (aT (a7 4 (mk Fh (cD (.int 0))))
 (aT (bn (mk Fh (itD (uD (aa (bU .pieces)) (vD 0)))) (nmG 5)
 lB0)
 (bp 3)))))
noncomputable def ja:List D→Option D:=aa (bg 6 il)
abbrev j8(K:W.Frag):Sp:=spP K kNames .yes 2 ja
noncomputable def dh:SF:=
 (bd (bX (itD (ah ja (ae (vD 0) (ae (vD 1) ak)))) dR (oD (aa ixD) (vD 0) (cD (.int 0))) []))
noncomputable def d4:List D→Option D:=aa (bg 2 dh)
abbrev gF(K:W.Frag):Sp:=spP K kNames .yes 2 d4
noncomputable abbrev lB5:SF:=(aT (a7 6 (mk Fj (bX (iaD (aa ko) (ae (vD 4) (ae (ah (aa fW) (ae (vD 1) ak)) ak))) (bD (oD (aa ltD) (oD (aa nJ) (oD (aa ixD) (vD 2) (vD 0)) (vD 1)) (vD 4))) (oD (aa ixD) (vD 3) (vD 0)) [5,1,0,2]))) (bq 3 (mk Fj (ah (aa qD) (ae (vD 6) ak)))))
noncomputable def dN:SF:=
 (aT (a7 3 (mk Ff (bi ak)))
 (aT (bn (mk Fj (iaD (aa mT) (ae (vD 1) ak))) (bB [4,5])
 lB5)
 (bd (ah (aa oA) (ae (vD 3) ak)))))
noncomputable def gk:List D→Option D:=aa (ba 7 dN)
abbrev hG(K:W.Frag):Sp:=spP K kNames .no 3 gk
noncomputable def e7:SF:=
 (aT (a7 1 (mk [false,false,false] (bi ak)))
 (aT (bn (mk [false,true,false] (itD (vD 0))) (nmG 2)
 (bE 1 (ifD (trD (vD 1)) (oD (aa cF) (oD (aa ixD) (vD 1) (uD (aa wQ) (cD (.int 1)))) (oD (aa ixD) (vD 2) (cD (.int 0)))) (cD (.int 0)))))
 (bp 1)))
noncomputable def ia:List D→Option D:=aa (bg 3 e7)
abbrev iY(K:W.Frag):Sp:=spP K kNames .yes 1 ia
noncomputable def gG:SF:=
 (bd (ah gk (ae (bX (itD (vD 0)) dR (oD (aa ixD) (vD 0) (cD (.int 2))) []) (ae (ah ia (ae (vD 0) ak)) (ae (vD 1) ak)))))
noncomputable def iF:List D→Option D:=aa (ba 2 gG)
abbrev jL(K:W.Frag):Sp:=spP K kNames .no 2 iF
noncomputable def lA:SF:=
 (bd (bz (oD (aa leD) (ah iF (ae (vD 1) (ae (uD (aa (bU .length)) (vD 0)) ak))) (uD (aa (bU .bears)) (vD 0))) (oD (aa leD) (ah iF (ae (vD 1) (ae (uD (aa (bU .wide)) (vD 0)) ak))) (uD (aa (bU .most)) (vD 0)))))
noncomputable def fH:List D→Option D:=aa (ba 2 lA)
abbrev kF(K:W.Frag):Sp:=spP K kNames .no 2 fH
noncomputable def cQ:SF:=
 (bn (mk Fc (iaD (aa mT) (ae (vD 1) ak))) (bB [2,3])
 (bn (mk Fc (itD (vD 0))) (nmG 4)
 (ifS (bo (bD (ah fH (ae (vD 4) (ae (bi (ae (vD 3) ak)) ak))))) nvS
 nxS)))
noncomputable def fE:List D→Option D:=aa (ba 5 cQ)
abbrev gH(K:W.Frag):Sp:=spP K kNames .no 2 fE
noncomputable def fT:SF:=
 (bd (ah (aa nK) (ae (bX (itD (vD 0)) dR (ah fH (ae (vD 0) (ae (vD 1) ak))) [1]) ak)))
noncomputable def fU:List D→Option D:=aa (ba 2 fT)
abbrev jq(K:W.Frag):Sp:=spP K kNames .no 2 fU
noncomputable def im:SF:=
 (aT (a7 3 (mk [false,false,false,false] (oD (aa cF) (vD 2) (cD (.int 1)))))
 (aT (whS (bx (bD (oD (aa ltD) (vD 3) (ah (aa fW) (ae (vD 1) ak)))) (bD (ah fU (ae (vD 0) (ae (slD (aa ji) (vD 1) (atO (vD 2)) (atO (oD (aa cF) (vD 3) (cD (.int 1))))) ak)))))
 (a7 3 (mk [false,false,false,false] (oD (aa cF) (vD 3) (cD (.int 1))))))
 (bd (vD 3))))
noncomputable def jb:List D→Option D:=aa (ba 4 im)
abbrev j9(K:W.Frag):Sp:=spP K kNames .no 3 jb
noncomputable def jc:SF:=
 (aT (a7 3 (mk Ff (ah d4 (ae (vD 0) (ae (vD 2) ak)))))
 (aT (aZ (ah fE (ae (vD 3) (ae (uD (aa (bU .wheels)) (vD 1)) ak))))
 (vH 4 (a7 4 (mk Ff (bi ak)))
 (aT (a7 5 (mk Fk (cD (.int 0))))
 (aT (whS (bD (oD (aa ltD) (vD 5) (ah (aa fW) (ae (uD (aa (bU .wheels)) (vD 1)) ak))))
 (aT (a7 6 (mk Fk (ah jb (ae (vD 3) (ae (uD (aa (bU .wheels)) (vD 1)) (ae (vD 5) ak))))))
 (aT (vE 4 (fo .Cart jK (ae (uD (aa (bU .name)) (vD 1)) (ae (uD (aa (bU .speed)) (vD 1)) (ae (slD (aa ji) (uD (aa (bU .wheels)) (vD 1)) (atO (vD 5)) (atO (vD 6))) ak)))))
 (a7 5 (mk Fk (vD 6))))))
 (bp 4))))))
noncomputable def d5:List D→Option D:=aa (bg 7 jc)
abbrev jT(K:W.Frag):Sp:=spP K kNames .nw 3 d5
noncomputable abbrev lB2:SF:=(aT (ifS (bo (bD (ah (aa nK) (ae (bX (itD (vD 4)) dR (ah fH (ae (vD 0) (ae (uD (aa (bU .wheels)) (vD 1)) ak))) [7]) ak)))) (bd (cD (.bl false))) nxS) (aT (a7 8 (mk Fb (oD (aa cF) (uD (aa (bU .wheels)) (oD (aa ixD) (vD 3) (ah (aa lO) (ae (cD (.int 0)) (ae (oD (aa nJ) (vD 5) (cD (.int 1))) ak))))) (uD (aa (bU .wheels)) (vD 7))))) (aT (ifS (bx (bD (oD (aa gtD) (vD 5) (cD (.int 0)))) (bD (ah (aa nK) (ae (bX (itD (vD 4)) dR (ah fH (ae (vD 0) (ae (vD 1) ak))) [8]) ak)))) (bd (cD (.bl false))) nxS) (aT (a7 9 (mk Fb (ah d5 (ae (vD 0) (ae (vD 7) (ae (vD 2) ak)))))) (aT (ifS (bD (oD (aa neD) (ah (aa fW) (ae (vD 9) ak)) (cD (.int 1)))) (bd (cD (.bl false))) nxS) (ifS (bo (bD (ah cY (ae (oD (aa ixD) (vD 9) (cD (.int 0))) (ae (uD (aa (bU .name)) (vD 1)) (ae (uD (aa (bU .speed)) (vD 1)) (ae (uD (aa (bU .wheels)) (vD 7)) ak))))))) (bd (cD (.bl false))) nxS))))))
noncomputable def fV:SF:=
 (aT (a7 3 (mk Fb (ah d5 (ae (vD 0) (ae (vD 1) (ae (vD 2) ak))))))
 (aT (ifS (bo (bD (ah cY (ae (ah iD (ae (vD 3) ak)) (ae (uD (aa (bU .name)) (vD 1)) (ae (uD (aa (bU .speed)) (vD 1)) (ae (uD (aa (bU .wheels)) (vD 1)) ak))))))) (bd (cD (.bl false)))
 nxS)
 (aT (a7 4 (mk Fb (bi ak)))
 (aT (bn (mk Fm (iaD (aa mT) (ae (ah dy (ae (vD 0) ak)) ak))) (bB [5,6])
 (ifS (bD (oD (aa ixD) (vD 2) (vD 5))) (bq 4 (mk Fm (vD 6)))
 nxS))
 (aT (bn (mk Fb (iaD (aa mT) (ae (vD 3) ak))) (bB [5,7])
 lB2)
 (bd (cD (.bl true))))))))
noncomputable def gR:List D→Option D:=aa (ba 10 fV)
abbrev jr(K:W.Frag):Sp:=spP K kNames .no 3 gR
noncomputable def eu:SF:=
 (aT (a7 4 (mk Ff (bX (itD (ah d5 (ae (vD 0) (ae (vD 1) (ae (vD 2) ak))))) dR (slD (aa ji) (uD (aa (bU .wheels)) (vD 0)) noO noO) [])))
 (aT (lq 5 6 (ah d5 (ae (vD 0) (ae (vD 1) (ae (vD 2) ak)))) (bj (ae (cD (.int 1)) (ae (cD (.int 0)) (ae (cD (.int 0)) ak)))))
 (aT (ifS (bo (bD (ah cY (ae (vD 1) (ae (cD (.str (Str.ofString "load"))) (ae (uD (aa (bU .speed)) (vD 1)) (ae (vD 3) ak))))))) (bd (cD (.bl false)))
 nxS)
 (aT (bF 5)
 (bd (ah F_law_same (ae (bX (itD (ah d5 (ae (vD 0) (ae (vD 1) (ae (vD 2) ak))))) dR (uD (aa (bU .wheels)) (vD 0)) []) (ae (vD 4) ak))))))))
noncomputable def fw:List D→Option D:=aa (ba 7 eu)
abbrev iG(K:W.Frag):Sp:=spP K kNames .no 4 fw
noncomputable def pV:List D→Option (List (Fl×D)):=oz [(.pieces,(ah (aa jB) (ae (vD 1) ak))),(.rounds,(ah (aa jB) (ae (vD 2) ak))),(.shuts,(ah (aa jB) (ae (vD 3) ak)))]
abbrev js(K:W.Frag):Sp:=spI K kNames .Road 3 pV
noncomputable abbrev lB3:SF:=(aT (a7 7 (mk Fn (oD (aa cF) (ah dX (ae (vD 0) (ae (oD (aa cF) (cD (.int 1)) (vD 6)) ak))) (oD (aa pA) (cD (.int 65537)) (vD 6))))) (aT (a7 4 (mk Fn (oD (aa cF) (vD 4) (bi (ae (ah h9 (ae (vD 7) (ae (vD 3) (ae (oD (aa ixD) (cD (.str (Str.ofString "xyz"))) (vD 6)) ak)))) (ae (bj (ae (cD (.str (Str.ofString "open"))) (ae (cD (.int 300)) ak))) ak)))))) (ifS (bD (oD (aa eqD) (oD (aa fg) (ah fO (ae (vD 7) (ae (cD (.int 102)) (ae (cD (.int 1000081)) ak)))) (cD (.int 3))) (cD (.int 0)))) (bq 5 (mk Fn (bj (ae (oD (aa ixD) (cD (.str (Str.ofString "xyz"))) (vD 6)) (ae (cD (.int 77)) ak))))) nxS)))
noncomputable def sY:SF:=
 (aT (a7 1 (mk Fo (oD (aa cF) (ah dX (ae (vD 0) (ae (cD (.int 0)) ak))) (ah (aa fW) (ae (vD 0) ak)))))
 (aT (a7 2 (mk Fo (ah fO (ae (vD 1) (ae (cD (.int 101)) (ae (cD (.int 1000039)) ak))))))
 (aT (a7 3 (mk Fo (ah gh (ae (vD 1) (ae (oD (aa cF) (cD (.int 1)) (oD (aa fg) (vD 2) (cD (.int 8)))) ak)))))
 (aT (a7 4 (mk Fo (bi (ae (bj (ae (cD (.str (Str.ofString "open"))) (ae (cD (.int 200)) ak))) ak))))
 (aT (a7 5 (mk Fo (bi ak)))
 (aT (bn (mk Fn (iaD (aa iL) (ae (oD (aa cF) (cD (.int 1)) (oD (aa fg) (oD (aa eE) (vD 2) (cD (.int 8))) (cD (.int 3)))) ak))) (nmG 6)
 lB3)
 (aT (a7 8 (mk Fo (fo .Road pV (ae (ah gi (ae (vD 4) ak)) (ae (vD 5) (ae (bi ak) ak))))))
 (aT (a7 9 (mk Fo (fo .Cart jK (ae (cD (.str (Str.ofString "load"))) (ae (oD (aa cF) (cD (.int 1)) (oD (aa fg) (oD (aa eE) (vD 2) (cD (.int 200))) (cD (.int 12)))) (ae (vD 3) ak))))))
 (aT (bn (mk Fo (itD (ah jR (ae (vD 8) ak)))) (nmG 10)
 (ifS (orB (bo (bD (ah gR (ae (vD 8) (ae (vD 9) (ae (vD 10) ak)))))) (bo (bD (ah fw (ae (vD 8) (ae (vD 9) (ae (vD 10) (ae (vD 3) ak)))))))) (bd (cD (.bl false)))
 nxS))
 (aT (a7 11 (mk Fo (bX (iaD (aa iL) (ae (oD (aa cF) (cD (.int 1)) (oD (aa fg) (oD (aa eE) (vD 2) (cD (.int 24))) (cD (.int 5)))) ak)) dR (ah eL (ae (vD 1) (ae (vD 0) ak))) [0])))
 (aT (a7 12 (mk Fo (bi ak)))
 (aT (bn (mk Fo (itD (vD 11))) (nmG 7)
 (a7 12 (mk Fo (oD (aa cF) (vD 12) (uD (aa (bU .wheels)) (vD 7))))))
 (aT (m9 13 (ah iD (ae (vD 11) ak)) (bo (bD (ah cY (ae (vD 13) (ae (uD (aa (bU .name)) (oD (aa ixD) (vD 11) (cD (.int 0)))) (ae (uD (aa (bU .speed)) (oD (aa ixD) (vD 11) (cD (.int 0)))) (ae (vD 12) ak))))))) (bj (ae (cD (.int 1)) (ae (cD (.int 1)) (ae (cD (.int 1)) ak)))))
 (bd (bz (ah cY (ae (ah iD (ae (vD 11) ak)) (ae (uD (aa (bU .name)) (oD (aa ixD) (vD 11) (cD (.int 0)))) (ae (uD (aa (bU .speed)) (oD (aa ixD) (vD 11) (cD (.int 0)))) (ae (vD 12) ak))))) (ah F_law_same (ae (uD (aa (bU .wheels)) (vD 9)) (ae (vD 3) ak))))))))))))))))))
noncomputable def sZ:List D→Option D:=aa (ba 14 sY)
open PD
theorem aw{i j:Int}(h:(-18446744073709551616<i∧i<18446744073709551616)∨(-18446744073709551616<j∧j<18446744073709551616)):aa pA (.int i) (.int j)=some (.int (i*j)):=by rw[az];exact if_pos h
theorem aq{i j:Int}(h:0<j):aa fg (.int i) (.int j)=some (.int (i%j)):=by rw[az];exact if_pos h
theorem ai{i j:Int}(h:0<j∧j<1073741824):aa eE (.int i) (.int j)=some (.int (i/j)):=by rw[az];exact if_pos h
theorem aj{i j:Int}(h:0<j∧j<18446744073709551616):aa Ay (.int i) (.int j)=some (.int (i/j)):=by rw[az];exact if_pos h
theorem ao{i j:Int}:aa cF (.int i) (.int j)=some (.int (i+j)):=by rw[az];exact rfl
theorem au{i j:Int}:aa nJ (.int i) (.int j)=some (.int (i-j)):=by rw[az];exact rfl
theorem aD{i j:Int}:aa ltD (.int i) (.int j)=some (.bl (decide (i<j))):=by rw[az];exact rfl
theorem aF{i j:Int}:aa leD (.int i) (.int j)=some (.bl (decide (i≤j))):=by rw[az];exact rfl
theorem aG{i j:Int}:aa gtD (.int i) (.int j)=some (.bl (decide (j<i))):=by rw[az];exact rfl
theorem aH{i j:Int}:aa geD (.int i) (.int j)=some (.bl (decide (j≤i))):=by rw[az];exact rfl
theorem aI{i j:Int}:aa eqD (.int i) (.int j)=some (.bl (decide (i=j))):=by rw[az];exact rfl
theorem aJ{i j:Str}:aa eqD (.str i) (.str j)=some (.bl (decide (i=j))):=by rw[az];exact rfl
theorem aK{i j:Bool}:aa eqD (.bl i) (.bl j)=some (.bl (decide (i=j))):=by rw[az];exact rfl
theorem aL{i j:Int}:aa neD (.int i) (.int j)=some (.bl (!decide (i=j))):=by rw[az];exact rfl
theorem aM{i:Int}:aa wQ (.int i)=some (.int (-i)):=by rw[az];exact rfl
theorem gS{xs:List D}{i:Int}:aa ixD (.lst xs) (.int i)=atI xs i:=by rw[az];exact rfl
theorem jY{xs:List D}{i:Int}:aa ixD (.tup xs) (.int i)=atI xs i:=by rw[az];exact rfl
theorem AJ{xs:List D}{i:Int}:aa ixD (.fz xs) (.int i)=atI xs i:=by rw[az];exact rfl
theorem qM{α:Type}{xs:List α}{n:Nat}(h:n<xs.length):atI xs (n:Int)=xs[n]? :=by
 unfold atI ixN
 rw[if_pos (by omega),if_pos (by omega)]
 rfl
theorem iH{α:Type}{xs:List α}{i:Int}{n:Nat}{x:α}(hi:i=n)(h:xs[n]? =some x):atI xs i=some x:=by
 subst hi
 rw[qM (List.getElem?_eq_some_iff.mp h).1,h]
theorem bf{o:Option D}{r:PD.Env}:vD 0 (o::r)=o:=rfl
theorem bh{n:Nat}{o:Option D}{r:PD.Env}:vD (n+1) (o::r)=vD n r:=rfl
theorem al{fl:List Bool}{o:Option D}{r:PD.Env}:fj (false::fl) (o::r)=o::fj fl r:=rfl
theorem ar{fl:List Bool}{o:Option D}{r:PD.Env}:fj (true::fl) (o::r)=none::fj fl r:=rfl
theorem am{r:PD.Env}:fj [] r=[]:=rfl
theorem aV{xs:List D}{r:PD.Env}:e8 0 (some (.lst xs)::r)=some xs:=rfl
theorem aW{n:Nat}{o:Option D}{r:PD.Env}:e8 (n+1) (o::r)=e8 n r:=rfl
theorem ay{xs:List D}:aa mT [.lst xs]=some (hU xs):=by rw[az];exact rfl
theorem aO{xs ys:List D}:aa va [.lst xs, .lst ys]=some (lV xs ys):=by rw[az];exact rfl
theorem aN{xs:List D}:aa fW [.lst xs]=some (.int xs.length):=by rw[az];rfl
theorem aP{xs:List D}:aa fW [.tup xs]=some (.int xs.length):=by rw[az];rfl
theorem aA{α β:Type}{a:α}{f:α→Option β}:(some a).bind f=f a:=rfl
theorem aB{α:Type}{a b:α}:(if true=true then a else b)=a:=rfl
theorem aE{α:Type}{a b:α}:(if false=true then a else b)=b:=rfl
theorem bc{F G:SF}{e e1:PD.Env}(h:F e=some (.nx e1)):aT F G e=G e1:=by unfold aT;rw[h];rfl
theorem dO{n:Nat}{b:SF}{ds:List D}{d:D}(h:b (ix n ds)=some (.rt d)):ba n b ds=some d:=by unfold ba;rw[h];rfl
theorem gl{n:Nat}{b:SF}{ds:List D}{d:D}(h:b (ix n ds)=some (.rt d)):bg n b ds=some d:=by unfold bg;rw[h];rfl
theorem qN{g:GF}{b:SF}(Pv:Nat→PD.Env→Prop):∀{ds:List D} {env:PD.Env} (k:Nat),Pv k env→(∀i d e,ds[i]? =some d→Pv (k+i) e→∃e1,g d e=some e1∧∃e2,b e1=some (.nx e2)∧Pv (k+i+1) e2)→∃e',fk g b ds env=some (.nx e')∧Pv (k+ds.length) e'
 |[],env,k,h0,_=>⟨env,rfl,h0⟩
 |d::ds,env,k,h0,hs=>by
  obtain⟨e1,h1,e2,h2,p2⟩:=hs 0 d env rfl h0
  obtain⟨e',h3,p3⟩:=qN (g:=g) (b:=b) Pv (ds:=ds) (env:=e2) (k+1) p2 (fun i d e hd hp=>by
   obtain⟨f1,q1,f2,q2,q3⟩:=hs (i+1) d e hd (by rw[show k+(i+1)=k+1+i from by omega];exact hp)
   exact⟨f1,q1,f2,q2,by rw[show k+1+i+1=k+(i+1)+1 from by omega];exact q3⟩)
  refine⟨e', ?_,by rw[List.length_cons,show k+(ds.length+1)=k+1+ds.length from by omega];exact p3⟩
  rw[fk,h1,aA,h2,aA]
  exact h3
theorem dA{g:GF}{b:SF}{ds:List D}{env:PD.Env}(Pv:Nat→PD.Env→Prop)(h0:Pv 0 env)(hs:∀i d e,ds[i]? =some d→Pv i e→∃e1,g d e=some e1∧∃e2,b e1=some (.nx e2)∧Pv (i+1) e2):∃e',fk g b ds env=some (.nx e')∧Pv ds.length e':=by
 obtain⟨e',h1,h2⟩:=qN (g:=g) (b:=b) Pv 0 h0 (fun i d e hd hp=>by rw[Nat.zero_add] at hp ⊢;exact hs i d e hd hp)
 exact⟨e',h1,by rw[Nat.zero_add] at h2;exact h2⟩
theorem d6{fc:BF}{fe:VF}{caps:PD.Env}{α:Type}{mk:α→D}{f:α→D}:∀{xs:List α},(∀x∈xs,fc (some (mk x)::caps)=some true∧fe (some (mk x)::caps)=some (f x))→jv fc fe caps (xs.map mk)=some (xs.map f)
 |[],_=>rfl
 |x::xs,h=>by
  obtain⟨h1,h2⟩:=h x List.mem_cons_self
  rw[List.map_cons,jv,h1,aA,aB,h2,aA,d6 fun y hy=>h y (List.mem_cons_of_mem _ hy)]
  rfl
theorem kG{fc:BF}{fe:VF}{caps:PD.Env}{α:Type}{mk:α→D}{p:α→Bool}{f:α→D}:∀{xs:List α},(∀x∈xs,fc (some (mk x)::caps)=some (p x)∧(p x=true→fe (some (mk x)::caps)=some (f x)))→jv fc fe caps (xs.map mk)=some ((xs.filter p).map f)
 |[],_=>rfl
 |x::xs,h=>by
  obtain⟨h1,h2⟩:=h x List.mem_cons_self
  rw[List.map_cons,jv,h1,aA,kG fun y hy=>h y (List.mem_cons_of_mem _ hy)]
  cases e:p x with
  |true=>rw[aB,h2 e,aA,List.filter_cons_of_pos (by simpa using e)];rfl
  |false=>rw[aE,List.filter_cons_of_neg (by simp[e])]
theorem my:∀{xs:List Int},inS (xs.map D.int)=some xs
 |[]=>rfl
 |x::xs=>by rw[List.map_cons,inS,my];rfl
theorem mz:∀{xs:List Bool},blS (xs.map D.bl)=some xs
 |[]=>rfl
 |x::xs=>by rw[List.map_cons,blS,mz];rfl
def qO(c o p:Int):Int:=((c%p+12345+31*o*o+o)*48271%p)*((c%p+12345+31*o*o+o)*48271%p)%998244353/3
theorem mB(c o p:Int):0≤qO c o p:=by unfold qO;omega
theorem qP{c o p:Int}(hp:0<p)(hp2:p<18446744073709551616)(ho:0≤o)(ho2:o<1000):fO [.int c, .int o, .int p]=some (.int (qO c o p)):=by
 have h1:0≤(c%p+12345+31*o*o+o)*48271%p:=Int.emod_nonneg _ (by omega)
 have h2:(c%p+12345+31*o*o+o)*48271%p<p:=Int.emod_lt_of_pos _ hp
 rw[fO,az,ba]
 rw[show ix 4 [D.int c, .int o, .int p]=[some (.int c),some (.int o),some (.int p),none] from rfl]
 simp(disch:=omega) only[i8,ba,bg,aT,a7,bd,bp,ifS,nxS,bD,mk,al,ar,am,aV,aW,oD,uD,bf,bh,cD,ah,ae,ak,bj,bi,bx,orB,bo,bz,orD,bC,aA,aB,aE,if_true,if_false,List.set_cons_zero,List.set_cons_succ,aw,aq,ai,aj,ao,au,aD,aF,aG,aH,aI,aJ,aK,aL,aM]
 rfl
set_option compiler.extract_closed false
local macro_rules | `(tactic| o_shape) => `(tactic| omega)
local macro_rules | `(tactic| o_reads) => `(tactic| first | decide | omega)
inductive Good:Nat→D→Prop
 |non (k:Nat):Good (k+1) .non
 |bl (k:Nat) (b:Bool):Good (k+1) (.bl b)
 |int (k:Nat) (i:Int):Good (k+1) (.int i)
 |str (k:Nat) (s:Str):Good (k+1) (.str s)
 |lst {k:Nat} {xs:List D} (h:∀x∈xs,Good k x) (l:xs.length<1000000):Good (k+1) (.lst xs)
 |tup {k:Nat} {xs:List D} (h:∀x∈xs,Good k x) (l:xs.length<1000000):Good (k+1) (.tup xs)
theorem oB{c c':Cl}{fs:List (Fl×D)}{b:Bool}(h:decide (c'=c)=b):aa (isC c) [.ob c' fs]=some (.bl b):=by
 rw[az,←h]
 rfl
theorem lB{i:Int}:aa pG [.int i]=some (.bl false):=by rw[az];rfl
theorem lC{i:Str}:aa pG [.str i]=some (.bl false):=by rw[az];rfl
theorem lD{i:Bool}:aa pG [.bl i]=some (.bl false):=by rw[az];rfl
theorem lE:aa pG [.non]=some (.bl false):=by rw[az];rfl
theorem lF{i:List D}:aa pG [.lst i]=some (.bl true):=by rw[az];rfl
theorem lG{i:List D}:aa pG [.tup i]=some (.bl true):=by rw[az];rfl
theorem oE{T:String}{i:Int}:aa (isT T) [.int i]=some (.bl (gu "int" T)):=by rw[az];rfl
theorem oF{T:String}{i:Str}:aa (isT T) [.str i]=some (.bl (gu "str" T)):=by rw[az];rfl
theorem oG{T:String}{i:Bool}:aa (isT T) [.bl i]=some (.bl (gu "bool" T)):=by rw[az];rfl
theorem oH{T:String}:aa (isT T) [.non]=some (.bl (gu "NoneType" T)):=by rw[az];rfl
theorem oI{T:String}{i:List D}:aa (isT T) [.lst i]=some (.bl (gu "list" T)):=by rw[az];rfl
theorem oJ{T:String}{i:List D}:aa (isT T) [.tup i]=some (.bl (gu "tuple" T)):=by rw[az];rfl
theorem nu{i:Int}:aa isD (.int i) .non=some (.bl false):=by rw[az];rfl
theorem oK{i:Str}:aa isD (.str i) .non=some (.bl false):=by rw[az];rfl
theorem oM{i:Bool}:aa isD (.bl i) .non=some (.bl false):=by rw[az];rfl
theorem nv:aa isD .non .non=some (.bl true):=by rw[az];rfl
theorem oN{i:List D}:aa isD (.lst i) .non=some (.bl false):=by rw[az];rfl
theorem oO{i:List D}:aa isD (.tup i) .non=some (.bl false):=by rw[az];rfl
theorem k_bs:gu "bool" "str"=false:=by decide
theorem k_bi:gu "bool" "int"=true:=by decide
theorem k_bb:gu "bool" "bool"=true:=by decide
theorem k_is:gu "int" "str"=false:=by decide
theorem k_ii:gu "int" "int"=true:=by decide
theorem k_ib:gu "int" "bool"=false:=by decide
theorem k_ss:gu "str" "str"=true:=by decide
theorem k_ll:gu "list" "list"=true:=by decide
theorem k_tt:gu "tuple" "tuple"=true:=by decide
theorem oP{F:List D→Option D}:∀{xs:List D},(∀x∈xs,F [x,x]=some (.bl true))→jF 2 dR (ah F (ae (vD 0) (ae (vD 1) ak))) [] (lV xs xs)=some (xs.map fun _=> .bl true)
 |[],_=>rfl
 |x::xs,h=>by
  show jF 2 _ _ [] (.tup [x,x]::lV xs xs)=_
  rw[jF,if_pos (show [x,x].length=2 from rfl)]
  show ((some true).bind _)=_
  rw[aA,aB]
  show ((ah F (ae (vD 0) (ae (vD 1) ak)) [some x,some x]).bind _)=_
  simp only[ah,ae,ak,bf,bh,aA]
  rw[h x List.mem_cons_self,aA,oP fun y hy=>h y (List.mem_cons_of_mem _ hy)]
  rfl
theorem vP:∀{xs:List D},aa nK [.lst (xs.map fun _=>D.bl true)]=some (.bl true):=fun {xs}=>by
 rw[az]
 have e:(xs.map fun _=>D.bl true)=(xs.map fun _=>true).map D.bl:=by rw[List.map_map];rfl
 show (blS _).map _=_
 rw[e,mz]
 simp
theorem ue{F:List D→Option D}{d:D}{xs:List D}(hd:d= .lst xs∨d= .tup xs)(hl:xs.length<1000000)(h:∀x∈xs,F [x,x]=some (.bl true)):ba 2 (fN F) [d,d]=some (.bl true):=by
 have z1:aa va [d,d]=some (lV xs xs):=by
  rw[az]
  rcases hd with rfl|rfl
  · rfl
  · show (if _ then _ else _)=_
    rw[if_pos (Nat.le_refl _)]
 have z2:aa fW [d]=some (.int xs.length):=by rw[az];rcases hd with rfl|rfl<;>rfl
 have zl:(lV xs xs).length<1000000:=by unfold lV;rw[List.length_zipWith];omega
 have z3:=oP (xs:=xs) h
 have kk:∀zs,d≠ .kt zs:=fun zs z=>by rcases hd with rfl|rfl<;>cases z
 have kf:∀zs,d≠ .fz zs:=fun zs z=>by rcases hd with rfl|rfl<;>cases z
 refine dO ?_
 show fN F [some d,some d]=_
 unfold fN
 have t1:aa (isT "list") [d]=some (.bl (gu d.ty "list")):=by rcases hd with rfl|rfl<;>(rw[az];rfl)
 have t2:aa (isT "tuple") [d]=some (.bl (gu d.ty "tuple")):=by rcases hd with rfl|rfl<;>(rw[az];rfl)
 generalize gu d.ty "list"=b1 at t1
 generalize gu d.ty "tuple"=b2 at t2
 have a1:∀b:Bool,(if b=true then some (!b) else some false)=some false:=fun b=>by cases b<;>rfl
 refine(bc (by
  simp(disch:=omega) only[t1,a1,slD,atO,noO,iaD,itD,ay,aO,aN,aP,bn,ba,bg,aT,a7,bH,bJ,bq,bE,bA,bF,aY,bI,aZ,nmG,bB,aX,bd,bp,ifS,nxS,bD,mk,al,ar,am,aV,aW,oD,uD,bf,bh,cD,ah,ae,ak,bj,bi,bx,orB,bo,bz,orD,bC,aA,aB,aE,if_true,if_false,List.set_cons_zero,List.set_cons_succ,List.length_map,List.length_range,List.length_append,List.length_cons,List.length_nil,aw,aq,ai,aj,ao,au,aD,aF,aG,aH,aI,aJ,aK,aL,aM]
  try rfl)).trans ?_
 refine(bc (by
  simp(disch:=omega) only[t2,a1,slD,atO,noO,iaD,itD,ay,aO,aN,aP,bn,ba,bg,aT,a7,bH,bJ,bq,bE,bA,bF,aY,bI,aZ,nmG,bB,aX,bd,bp,ifS,nxS,bD,mk,al,ar,am,aV,aW,oD,uD,bf,bh,cD,ah,ae,ak,bj,bi,bx,orB,bo,bz,orD,bC,aA,aB,aE,if_true,if_false,List.set_cons_zero,List.set_cons_succ,List.length_map,List.length_range,List.length_append,List.length_cons,List.length_nil,aw,aq,ai,aj,ao,au,aD,aF,aG,aH,aI,aJ,aK,aL,aM]
  try rfl)).trans ?_
 refine(bc (by
  simp(disch:=omega) only[z2,decide_true,Bool.not_true,slD,atO,noO,iaD,itD,ay,aO,aN,aP,bn,ba,bg,aT,a7,bH,bJ,bq,bE,bA,bF,aY,bI,aZ,nmG,bB,aX,bd,bp,ifS,nxS,bD,mk,al,ar,am,aV,aW,oD,uD,bf,bh,cD,ah,ae,ak,bj,bi,bx,orB,bo,bz,orD,bC,aA,aB,aE,if_true,if_false,List.set_cons_zero,List.set_cons_succ,List.length_map,List.length_range,List.length_append,List.length_cons,List.length_nil,aw,aq,ai,aj,ao,au,aD,aF,aG,aH,aI,aJ,aK,aL,aM]
  try rfl)).trans ?_
 simp(disch:=omega) only[vj,jC,List.map_nil,z1,zl,z3,Option.map_some,vP,slD,atO,noO,iaD,itD,ay,aO,aN,aP,bn,ba,bg,aT,a7,bH,bJ,bq,bE,bA,bF,aY,bI,aZ,nmG,bB,aX,bd,bp,ifS,nxS,bD,mk,al,ar,am,aV,aW,oD,uD,bf,bh,cD,ah,ae,ak,bj,bi,bx,orB,bo,bz,orD,bC,aA,aB,aE,if_true,if_false,List.set_cons_zero,List.set_cons_succ,List.length_map,List.length_range,List.length_append,List.length_cons,List.length_nil,aw,aq,ai,aj,ao,au,aD,aF,aG,aH,aI,aJ,aK,aL,aM]
theorem vQ:∀(k m:Nat) (d:D),Good k d→2*k≤m→(eJ m).2 [d,d]=some (.bl true)
 |0,_,_,g,_=>by cases g
 |k+1,0,_,_,h=>by omega
 |k+1,1,_,_,h=>by omega
 |k+1,m+2,d,g,hm=>by
  show aa (ba 2 (iA (eJ (m+1)).1)) [d,d]=_
  rw[az]
  refine dO ?_
  show iA _ [some d,some d]=_
  unfold iA
  have seqc:∀xs,(d= .lst xs∨d= .tup xs)→xs.length<1000000→(∀x∈xs,Good k x)→(eJ (m+1)).1 [d,d]=some (.bl true):=fun xs hd hl h=>by
   show aa (ba 2 (fN (eJ m).2)) [d,d]=_
   rw[az]
   exact ue hd hl fun x hx=>vQ k m x (h x hx) (by omega)
  generalize (eJ (m+1)).1=G at seqc
  cases g with
  |non=>
   simp(disch:=omega) only[lB,lC,lD,lE,lF,lG,oE,oF,oG,oH,oI,oJ,nu,oK,oM,nv,oN,oO,k_bs,k_bi,k_bb,k_is,k_ii,k_ib,k_ss,k_ll,k_tt,decide_true,slD,atO,noO,iaD,itD,ay,aO,aN,aP,bn,ba,bg,aT,a7,bH,bJ,bq,bE,bA,bF,aY,bI,aZ,nmG,bB,aX,bd,bp,ifS,nxS,bD,mk,al,ar,am,aV,aW,oD,uD,bf,bh,cD,ah,ae,ak,bj,bi,bx,orB,bo,bz,orD,bC,aA,aB,aE,if_true,if_false,List.set_cons_zero,List.set_cons_succ,List.length_map,List.length_range,List.length_append,List.length_cons,List.length_nil,aw,aq,ai,aj,ao,au,aD,aF,aG,aH,aI,aJ,aK,aL,aM]
  |bl b=>
   simp(disch:=omega) only[lB,lC,lD,lE,lF,lG,oE,oF,oG,oH,oI,oJ,nu,oK,oM,nv,oN,oO,k_bs,k_bi,k_bb,k_is,k_ii,k_ib,k_ss,k_ll,k_tt,decide_true,slD,atO,noO,iaD,itD,ay,aO,aN,aP,bn,ba,bg,aT,a7,bH,bJ,bq,bE,bA,bF,aY,bI,aZ,nmG,bB,aX,bd,bp,ifS,nxS,bD,mk,al,ar,am,aV,aW,oD,uD,bf,bh,cD,ah,ae,ak,bj,bi,bx,orB,bo,bz,orD,bC,aA,aB,aE,if_true,if_false,List.set_cons_zero,List.set_cons_succ,List.length_map,List.length_range,List.length_append,List.length_cons,List.length_nil,aw,aq,ai,aj,ao,au,aD,aF,aG,aH,aI,aJ,aK,aL,aM]
  |int i=>
   simp(disch:=omega) only[lB,lC,lD,lE,lF,lG,oE,oF,oG,oH,oI,oJ,nu,oK,oM,nv,oN,oO,k_bs,k_bi,k_bb,k_is,k_ii,k_ib,k_ss,k_ll,k_tt,decide_true,slD,atO,noO,iaD,itD,ay,aO,aN,aP,bn,ba,bg,aT,a7,bH,bJ,bq,bE,bA,bF,aY,bI,aZ,nmG,bB,aX,bd,bp,ifS,nxS,bD,mk,al,ar,am,aV,aW,oD,uD,bf,bh,cD,ah,ae,ak,bj,bi,bx,orB,bo,bz,orD,bC,aA,aB,aE,if_true,if_false,List.set_cons_zero,List.set_cons_succ,List.length_map,List.length_range,List.length_append,List.length_cons,List.length_nil,aw,aq,ai,aj,ao,au,aD,aF,aG,aH,aI,aJ,aK,aL,aM]
  |str s=>
   simp(disch:=omega) only[lB,lC,lD,lE,lF,lG,oE,oF,oG,oH,oI,oJ,nu,oK,oM,nv,oN,oO,k_bs,k_bi,k_bb,k_is,k_ii,k_ib,k_ss,k_ll,k_tt,decide_true,slD,atO,noO,iaD,itD,ay,aO,aN,aP,bn,ba,bg,aT,a7,bH,bJ,bq,bE,bA,bF,aY,bI,aZ,nmG,bB,aX,bd,bp,ifS,nxS,bD,mk,al,ar,am,aV,aW,oD,uD,bf,bh,cD,ah,ae,ak,bj,bi,bx,orB,bo,bz,orD,bC,aA,aB,aE,if_true,if_false,List.set_cons_zero,List.set_cons_succ,List.length_map,List.length_range,List.length_append,List.length_cons,List.length_nil,aw,aq,ai,aj,ao,au,aD,aF,aG,aH,aI,aJ,aK,aL,aM]
  |lst h l=>
   have:=seqc _ (.inl rfl) l h
   simp(disch:=omega) only[this,lB,lC,lD,lE,lF,lG,oE,oF,oG,oH,oI,oJ,nu,oK,oM,nv,oN,oO,k_bs,k_bi,k_bb,k_is,k_ii,k_ib,k_ss,k_ll,k_tt,decide_true,slD,atO,noO,iaD,itD,ay,aO,aN,aP,bn,ba,bg,aT,a7,bH,bJ,bq,bE,bA,bF,aY,bI,aZ,nmG,bB,aX,bd,bp,ifS,nxS,bD,mk,al,ar,am,aV,aW,oD,uD,bf,bh,cD,ah,ae,ak,bj,bi,bx,orB,bo,bz,orD,bC,aA,aB,aE,if_true,if_false,List.set_cons_zero,List.set_cons_succ,List.length_map,List.length_range,List.length_append,List.length_cons,List.length_nil,aw,aq,ai,aj,ao,au,aD,aF,aG,aH,aI,aJ,aK,aL,aM]
  |tup h l=>
   have:=seqc _ (.inr rfl) l h
   simp(disch:=omega) only[this,lB,lC,lD,lE,lF,lG,oE,oF,oG,oH,oI,oJ,nu,oK,oM,nv,oN,oO,k_bs,k_bi,k_bb,k_is,k_ii,k_ib,k_ss,k_ll,k_tt,decide_true,slD,atO,noO,iaD,itD,ay,aO,aN,aP,bn,ba,bg,aT,a7,bH,bJ,bq,bE,bA,bF,aY,bI,aZ,nmG,bB,aX,bd,bp,ifS,nxS,bD,mk,al,ar,am,aV,aW,oD,uD,bf,bh,cD,ah,ae,ak,bj,bi,bx,orB,bo,bz,orD,bC,aA,aB,aE,if_true,if_false,List.set_cons_zero,List.set_cons_succ,List.length_map,List.length_range,List.length_append,List.length_cons,List.length_nil,aw,aq,ai,aj,ao,au,aD,aF,aG,aH,aI,aJ,aK,aL,aM]
theorem pW{d:D}{k:Nat}(g:Good k d)(hk:k≤7:=by omega):F_law_same [d,d]=some (.bl true):=vQ k 14 d g (by omega)
structure Br where
 name:Str
 length:Int
 bears:Int
 wide:Int
 most:Int
def Br.t(b:Br):D:= .tup [.str "bridge", .str b.name, .int b.length, .int b.bears, .int b.wide, .int b.most]
def Br.o(b:Br):D:= .ob .Bridge [(.name, .str b.name),(.length, .int b.length),(.bears, .int b.bears),(.wide, .int b.wide),(.most, .int b.most)]
def opT(l:Int):D:= .tup [.str "open", .int l]
def opO(l:Int):D:= .ob .Open [(.length, .int l)]
inductive Pc where
 |op (l:Int)|br (b:Br)
def Pc.t:Pc→D
 | .op l=>opT l
 | .br b=>b.t
def Pc.o:Pc→D
 | .op l=>opO l
 | .br b=>b.o
def Pc.isB:Pc→Bool
 | .br _=>true
 |_=>false
def rdT(r:Str×Int):D:= .tup [.str r.1, .int r.2]
def shT(r:Str×Int×Int):D:= .tup [.str r.1, .int r.2.1, .int r.2.2]
structure Rod where
 first:Int
 bs:List (Br×Int)
 rounds:List (Str×Int)
 shuts:List (Str×Int×Int)
def bsP:List (Br×Int)→List Pc
 |[]=>[]
 |(b,o)::r=> .br b:: .op o::bsP r
def Rod.pcs(R:Rod):List Pc:= .op R.first::bsP R.bs
def Rod.o(R:Rod):D:= .ob .Road [(.pieces, .lst (R.pcs.map Pc.o)),(.rounds, .lst (R.rounds.map rdT)),(.shuts, .lst (R.shuts.map shT))]
def jw(xs:List Int)(k:Nat):Int:=xs.getD k 0
theorem rS{xs:List Int}{d:D}(hd:d= .lst (xs.map D.int)∨d= .fz (xs.map D.int))(k:Nat):dX [d, .int k]=some (.int (jw xs k)):=by
 have hl:aa fW [d]=some (.int xs.length):=by rw[az];rcases hd with rfl|rfl<;>simp[fW,oq]
 rw[dX,az]
 show (gE [some d,some (.int k)]).bind _=_
 unfold gE
 by_cases h:k<xs.length
 · have hi:aa ixD d (.int k)=some (.int (jw xs k)):=by
    rcases hd with rfl|rfl
    · rw[gS]
      exact iH rfl (by rw[List.getElem?_map,List.getElem?_eq_getElem h];simp[jw,h])
    · rw[AJ]
      exact iH rfl (by rw[List.getElem?_map,List.getElem?_eq_getElem h];simp[jw,h])
   simp(disch:=omega) only[hl,hi,ba,bg,aT,a7,bd,bp,ifS,nxS,bD,mk,al,ar,am,aV,aW,oD,uD,bf,bh,cD,ah,ae,ak,bj,bi,bx,orB,bo,bz,orD,bC,aA,aB,aE,if_true,if_false,List.set_cons_zero,List.set_cons_succ,aw,aq,ai,aj,ao,au,aD,aF,aG,aH,aI,aJ,aK,aL,aM]
   rw[decide_eq_true (by omega)]
   simp(disch:=omega) only[hl,hi,ba,bg,aT,a7,bd,bp,ifS,nxS,bD,mk,al,ar,am,aV,aW,oD,uD,bf,bh,cD,ah,ae,ak,bj,bi,bx,orB,bo,bz,orD,bC,aA,aB,aE,if_true,if_false,List.set_cons_zero,List.set_cons_succ,aw,aq,ai,aj,ao,au,aD,aF,aG,aH,aI,aJ,aK,aL,aM]
 · have hz:jw xs k=0:=by simp[jw,h]
   simp(disch:=omega) only[hl,hz,ba,bg,aT,a7,bd,bp,ifS,nxS,bD,mk,al,ar,am,aV,aW,oD,uD,bf,bh,cD,ah,ae,ak,bj,bi,bx,orB,bo,bz,orD,bC,aA,aB,aE,if_true,if_false,List.set_cons_zero,List.set_cons_succ,aw,aq,ai,aj,ao,au,aD,aF,aG,aH,aI,aJ,aK,aL,aM]
   rw[decide_eq_false (by omega)]
   simp(disch:=omega) only[hl,hz,ba,bg,aT,a7,bd,bp,ifS,nxS,bD,mk,al,ar,am,aV,aW,oD,uD,bf,bh,cD,ah,ae,ak,bj,bi,bx,orB,bo,bz,orD,bC,aA,aB,aE,if_true,if_false,List.set_cons_zero,List.set_cons_succ,aw,aq,ai,aj,ao,au,aD,aF,aG,aH,aI,aJ,aK,aL,aM]
theorem mC{j:Int}(h: -1000000<j∧j<1000000):aa iL [.int j]=some ((List.range j.toNat).map fun(i:Nat)=>D.int (0+(i:Int))):=by rw[az];exact if_pos h
structure Rod.WF(R:Rod)(nm:Nat→Str):Prop where
 inj:∀i j,i<6→j<6→nm i=nm j→i=j
 n0:1≤R.bs.length
 n1:R.bs.length≤6
 br:∀(j:Nat) (b:Br) (o:Int),R.bs[j]? =some (b,o)→b.name=nm j
theorem s0:∀(bs:List (Br×Int)) (b:Br) (o:Int),bsP (bs++[(b,o)])=bsP bs++[.br b, .op o]
 |[],_,_=>rfl
 |(c,p)::r,b,o=>by
  show Pc.br c:: .op p::bsP (r++[(b,o)])=_
  rw[s0 r b o]
  rfl
theorem mD:∀bs:List (Br×Int),(bsP bs).length=2*bs.length
 |[]=>rfl
 |(c,p)::r=>by
  show (bsP r).length+1+1=2*(r.length+1)
  rw[mD r]
  omega
theorem AK:(Str.ofString "bridge":Str)≠Str.ofString "open":=by boot_fact
theorem ix0{a:D}{r:List D}:atI (a::r) 0=some a:=by
 have:=qM (xs:=a::r) (n:=0) (by simp)
 exact this
theorem gM{xs:List D}{i:Int}{n:Nat}{x:D}(h:xs[n]? =some x)(hi:i=n:=by rfl):atI xs i=some x:=iH hi h
theorem A5{l:Int}:pU [.int l]=some [(.length, .int l)]:=rfl
theorem A6{b:Br}:kE [.str b.name, .int b.length, .int b.bears, .int b.wide, .int b.most]=some [(.name, .str b.name),(.length, .int b.length),(.bears, .int b.bears),(.wide, .int b.wide),(.most, .int b.most)]:=rfl
theorem vR{xs:List D}:aa jB [.lst xs]=some (.lst xs):=by rw[az];rfl
theorem A7{a b c:List D}:pV [.lst a, .lst b, .lst c]=some [(.pieces, .lst a),(.rounds, .lst b),(.shuts, .lst c)]:=by
 show lQ [(.pieces,ah (aa jB) (ae (vD 1) ak)),(.rounds,ah (aa jB) (ae (vD 2) ak)),(.shuts,ah (aa jB) (ae (vD 3) ak))] [none,some (.lst a),some (.lst b),some (.lst c)]=_
 simp only[lQ,ah,ae,ak,bf,bh,aA,vR,Option.map_some]
theorem vS{ps:List Pc}(hl:ps.length<1000):gi [.lst (ps.map Pc.t)]=some (.lst (ps.map Pc.o)):=by
 rw[gi,az]
 refine gl ?_
 show eX [some (.lst (ps.map Pc.t)),none,none]=_
 unfold eX
 obtain⟨e',hloop,o,rfl⟩:=dA (g:=nmG 2) (b:=ifS (bD (oD (aa eqD) (oD (aa ixD) (vD 2) (cD (.int 0))) (cD (.str (Str.ofString "open"))))) (bq 1 (mk [false,true,false] (fo .Open pU (ae (oD (aa ixD) (vD 2) (cD (.int 1))) ak))))
  (bq 1 (mk [false,true,false] (fo .Bridge kE (ae (oD (aa ixD) (vD 2) (cD (.int 1))) (ae (oD (aa ixD) (vD 2) (cD (.int 2))) (ae (oD (aa ixD) (vD 2) (cD (.int 3))) (ae (oD (aa ixD) (vD 2) (cD (.int 4))) (ae (oD (aa ixD) (vD 2) (cD (.int 5))) ak))))))))) (ds:=ps.map Pc.t) (env:=[some (.lst (ps.map Pc.t)),some (.lst []),none])
  (fun i e=>∃o,e=[some (.lst (ps.map Pc.t)),some (.lst ((ps.take i).map Pc.o)),o]) ⟨none,rfl⟩ (by
   rintro i d e hd ⟨o,rfl⟩
   rw[List.getElem?_map] at hd
   obtain⟨p,hp,rfl⟩:=Option.map_eq_some_iff.mp hd
   have hi:=(List.getElem?_eq_some_iff.mp hp).1
   have ht:(ps.take (i+1)).map Pc.o=(ps.take i).map Pc.o++[p.o]:=by rw[List.take_add_one,hp,List.map_append];rfl
   have hq:(List.take i ps).length<1000000:=by rw[List.length_take];omega
   refine⟨_,rfl,[some (.lst (ps.map Pc.t)),some (.lst ((ps.take (i+1)).map Pc.o)),some p.t], ?_,_,rfl⟩
   rw[ht]
   cases p with
   |op l=>
    simp(disch:=omega) only[Pc.t,opT,jY,ix0,decide_true,fo,gM (xs:=[D.str (Str.ofString "open"), .int l]) (i:=1) (n:=1) (x:= .int l) rfl,A5,Option.map_some,hq,Pc.o,opO,slD,atO,noO,iaD,itD,ay,aO,aN,aP,bn,ba,bg,aT,a7,bH,bJ,bq,bE,bA,bF,aY,bI,aZ,nmG,bB,aX,bd,bp,ifS,nxS,bD,mk,al,ar,am,aV,aW,oD,uD,bf,bh,cD,ah,ae,ak,bj,bi,bx,orB,bo,bz,orD,bC,aA,aB,aE,if_true,if_false,List.set_cons_zero,List.set_cons_succ,List.length_map,List.length_range,List.length_append,List.length_cons,List.length_nil,aw,aq,ai,aj,ao,au,aD,aF,aG,aH,aI,aJ,aK,aL,aM]
   |br b=>
    simp(disch:=omega) only[Pc.t,Br.t,jY,ix0,decide_eq_false AK,fo,gM (xs:=[D.str (Str.ofString "bridge"), .str b.name, .int b.length, .int b.bears, .int b.wide, .int b.most]) (i:=1) (n:=1) (x:= .str b.name) rfl,gM (xs:=[D.str (Str.ofString "bridge"), .str b.name, .int b.length, .int b.bears, .int b.wide, .int b.most]) (i:=2) (n:=2) (x:= .int b.length) rfl,gM (xs:=[D.str (Str.ofString "bridge"), .str b.name, .int b.length, .int b.bears, .int b.wide, .int b.most]) (i:=3) (n:=3) (x:= .int b.bears) rfl,gM (xs:=[D.str (Str.ofString "bridge"), .str b.name, .int b.length, .int b.bears, .int b.wide, .int b.most]) (i:=4) (n:=4) (x:= .int b.wide) rfl,gM (xs:=[D.str (Str.ofString "bridge"), .str b.name, .int b.length, .int b.bears, .int b.wide, .int b.most]) (i:=5) (n:=5) (x:= .int b.most) rfl,A6,Option.map_some,hq,Pc.o,Br.o,slD,atO,noO,iaD,itD,ay,aO,aN,aP,bn,ba,bg,aT,a7,bH,bJ,bq,bE,bA,bF,aY,bI,aZ,nmG,bB,aX,bd,bp,ifS,nxS,bD,mk,al,ar,am,aV,aW,oD,uD,bf,bh,cD,ah,ae,ak,bj,bi,bx,orB,bo,bz,orD,bC,aA,aB,aE,if_true,if_false,List.set_cons_zero,List.set_cons_succ,List.length_map,List.length_range,List.length_append,List.length_cons,List.length_nil,aw,aq,ai,aj,ao,au,aD,aF,aG,aH,aI,aJ,aK,aL,aM]
   )
 rw[List.length_map,List.take_of_length_le (Nat.le_refl _)] at hloop
 refine(bc (by
  simp(disch:=omega) only[hl,slD,atO,noO,iaD,itD,ay,aO,aN,aP,bn,ba,bg,aT,a7,bH,bJ,bq,bE,bA,bF,aY,bI,aZ,nmG,bB,aX,bd,bp,ifS,nxS,bD,mk,al,ar,am,aV,aW,oD,uD,bf,bh,cD,ah,ae,ak,bj,bi,bx,orB,bo,bz,orD,bC,aA,aB,aE,if_true,if_false,List.set_cons_zero,List.set_cons_succ,List.length_map,List.length_range,List.length_append,List.length_cons,List.length_nil,aw,aq,ai,aj,ao,au,aD,aF,aG,aH,aI,aJ,aK,aL,aM]
  try rfl)).trans ?_
 refine(bc (by
  simp(disch:=omega) only[cN,hloop,slD,atO,noO,iaD,itD,ay,aO,aN,aP,bn,ba,bg,aT,a7,bH,bJ,bq,bE,bA,bF,aY,bI,aZ,nmG,bB,aX,bd,bp,ifS,nxS,bD,mk,al,ar,am,aV,aW,oD,uD,bf,bh,cD,ah,ae,ak,bj,bi,bx,orB,bo,bz,orD,bC,aA,aB,aE,if_true,if_false,List.set_cons_zero,List.set_cons_succ,List.length_map,List.length_range,List.length_append,List.length_cons,List.length_nil,aw,aq,ai,aj,ao,au,aD,aF,aG,aH,aI,aJ,aK,aL,aM]
  try rfl)).trans ?_
 simp(disch:=omega) only[hl,slD,atO,noO,iaD,itD,ay,aO,aN,aP,bn,ba,bg,aT,a7,bH,bJ,bq,bE,bA,bF,aY,bI,aZ,nmG,bB,aX,bd,bp,ifS,nxS,bD,mk,al,ar,am,aV,aW,oD,uD,bf,bh,cD,ah,ae,ak,bj,bi,bx,orB,bo,bz,orD,bC,aA,aB,aE,if_true,if_false,List.set_cons_zero,List.set_cons_succ,List.length_map,List.length_range,List.length_append,List.length_cons,List.length_nil,aw,aq,ai,aj,ao,au,aD,aF,aG,aH,aI,aJ,aK,aL,aM]
theorem iI{c:Cl}{fs:List (Fl×D)}{f:Fl}{d:D}(h:bU f (.ob c fs)=some d):aa (bU f) (.ob c fs)=some d:=by rw[az];exact h
theorem xu{R:Rod}{nm:Nat→Str}(wf:R.WF nm):R.pcs.length<1000:=by
 have:=wf.n1
 show (bsP R.bs).length+1<1000
 rw[mD]
 omega
theorem qQ{R:Rod}:aa (bU .pieces) R.o=some (.lst (R.pcs.map Pc.o)):=iI rfl
theorem qR{R:Rod}:aa (bU .rounds) R.o=some (.lst (R.rounds.map rdT)):=iI rfl
theorem tf:∀bs:List (Br×Int),(bsP bs).filter Pc.isB=bs.map fun x=>Pc.br x.1
 |[]=>rfl
 |(b,o)::r=>by
  show Pc.br b::(bsP r).filter Pc.isB=_
  rw[tf r]
  rfl
theorem lH{R:Rod}{nm:Nat→Str}(wf:R.WF nm):dy [R.o]=some (.lst (R.bs.map fun x=>x.1.o)):=by
 rw[dy,az]
 refine gl ?_
 show eV [some R.o]=_
 unfold eV
 have pl:=xu wf
 have hc:bX (itD (uD (aa (bU .pieces)) (vD 0))) (bD (ah (aa (isC .Bridge)) (ae (vD 0) ak))) (vD 0) [] [some R.o]=some (.lst (R.bs.map fun x=>x.1.o)):=by
  unfold bX
  simp only[itD,uD,bf,aA,qQ,cN]
  rw[if_pos (by rw[List.length_map];omega),kG (p:=Pc.isB) (f:=Pc.o)]
  · show some (D.lst ((((Pc.op R.first::bsP R.bs).filter Pc.isB)).map Pc.o))=_
    rw[List.filter_cons_of_neg (by exact Bool.false_ne_true),tf,List.map_map]
    rfl
  · intro p _
    refine⟨?_,fun _=>rfl⟩
    have c1:aa (isC .Bridge) [p.o]=some (.bl p.isB):=by cases p<;>exact oB (by first|decide|rfl)
    simp only[bD,ah,ae,ak,bf,aA,c1]
 unfold bd
 rw[hc]
 rfl
def rT:Option Int→D
 |some l=> .int l
 |none=> .non
theorem tj{R:Rod}{n:Str}:iC [R.o, .str n]=some (rT (R.rounds.lookup n)):=by
 rw[iC,az]
 have main:∀(rs:List (Str×Int)) (o:Option D),(fk (nmG 2) (ifS (bD (oD (aa eqD) (oD (aa ixD) (vD 2) (cD (.int 0))) (vD 1))) (bd (oD (aa ixD) (vD 2) (cD (.int 1)))) nxS) (rs.map rdT) [some R.o,some (.str n),o]=some (.rt (rT (rs.lookup n)))∧(rs.lookup n).isSome=true)∨((∃o',fk (nmG 2) (ifS (bD (oD (aa eqD) (oD (aa ixD) (vD 2) (cD (.int 0))) (vD 1))) (bd (oD (aa ixD) (vD 2) (cD (.int 1)))) nxS) (rs.map rdT) [some R.o,some (.str n),o]=some (.nx [some R.o,some (.str n),o']))∧rs.lookup n=none):=by
  intro rs
  induction rs with
  |nil=>intro o;exact .inr ⟨⟨o,rfl⟩,rfl⟩
  |cons r rs ih=>
   intro o
   obtain⟨m,l⟩:=r
   by_cases h:m=n
   · subst h
     refine .inl ⟨?_,by rw[List.lookup_cons_self];rfl⟩
     rw[List.map_cons,fk,List.lookup_cons_self]
     simp(disch:=omega) only[rdT,jY,ix0,decide_true,gM (xs:=[D.str m, .int l]) (i:=1) (n:=1) (x:= .int l) rfl,rT,slD,atO,noO,iaD,itD,ay,aO,aN,aP,bn,ba,bg,aT,a7,bH,bJ,bq,bE,bA,bF,aY,bI,aZ,nmG,bB,aX,bd,bp,ifS,nxS,bD,mk,al,ar,am,aV,aW,oD,uD,bf,bh,cD,ah,ae,ak,bj,bi,bx,orB,bo,bz,orD,bC,aA,aB,aE,if_true,if_false,List.set_cons_zero,List.set_cons_succ,List.length_map,List.length_range,List.length_append,List.length_cons,List.length_nil,aw,aq,ai,aj,ao,au,aD,aF,aG,aH,aI,aJ,aK,aL,aM]
   · have hl:List.lookup n ((m,l)::rs)=rs.lookup n:=by rw[List.lookup_cons,beq_eq_false_iff_ne.mpr (Ne.symm h)]
     have step:fk (nmG 2) (ifS (bD (oD (aa eqD) (oD (aa ixD) (vD 2) (cD (.int 0))) (vD 1))) (bd (oD (aa ixD) (vD 2) (cD (.int 1)))) nxS) (((m,l)::rs).map rdT) [some R.o,some (.str n),o]=fk (nmG 2) (ifS (bD (oD (aa eqD) (oD (aa ixD) (vD 2) (cD (.int 0))) (vD 1))) (bd (oD (aa ixD) (vD 2) (cD (.int 1)))) nxS) (rs.map rdT) [some R.o,some (.str n),some (rdT (m,l))]:=by
      rw[List.map_cons,fk]
      simp only[nmG,List.set_cons_zero,List.set_cons_succ,aA]
      have hb:ifS (bD (oD (aa eqD) (oD (aa ixD) (vD 2) (cD (.int 0))) (vD 1))) (bd (oD (aa ixD) (vD 2) (cD (.int 1)))) nxS [some R.o,some (.str n),some (rdT (m,l))]=some (.nx [some R.o,some (.str n),some (rdT (m,l))]):=by
       simp(disch:=omega) only[rdT,jY,ix0,decide_eq_false h,slD,atO,noO,iaD,itD,ay,aO,aN,aP,bn,ba,bg,aT,a7,bH,bJ,bq,bE,bA,bF,aY,bI,aZ,nmG,bB,aX,bd,bp,ifS,nxS,bD,mk,al,ar,am,aV,aW,oD,uD,bf,bh,cD,ah,ae,ak,bj,bi,bx,orB,bo,bz,orD,bC,aA,aB,aE,if_true,if_false,List.set_cons_zero,List.set_cons_succ,List.length_map,List.length_range,List.length_append,List.length_cons,List.length_nil,aw,aq,ai,aj,ao,au,aD,aF,aG,aH,aI,aJ,aK,aL,aM]
      rw[hb,aA]
     rw[step,hl]
     exact ih _
 rcases main R.rounds none with⟨h1,h2⟩|⟨⟨o',h1⟩,h2⟩
 · refine dO ?_
   show eK [some R.o,some (.str n),none]=_
   unfold eK
   unfold aT bn
   simp only[mk,al,am,itD,uD,bf,aA,qR,cN,h1]
 · refine dO ?_
   show eK [some R.o,some (.str n),none]=_
   unfold eK
   unfold aT bn
   simp only[mk,al,am,itD,uD,bf,aA,qR,cN,h1,h2,bd,cD,rT]
def chs(cs:List (List D)):List (List D):=cs.foldl (fun told some=>told.flatMap fun a=>some.map fun o=>a++[o]) [[]]
theorem kI(cs:List (List D))(c:List D):chs (cs++[c])=(chs cs).flatMap fun a=>c.map fun o=>a++[o]:=by
 unfold chs
 rw[List.foldl_append]
 rfl
theorem vT{cs:List (List D)}(hb:∀k,(chs (cs.take k)).length<1000000)(hc:∀c∈cs,c.length<1000000)(ha:cs.length<900000):gL [.lst (cs.map .tup)]=some (.lst ((chs cs).map .tup)):=by
 rw[gL,az]
 refine gl ?_
 show d9 [some (.lst (cs.map .tup)),none,none,none,none]=_
 unfold d9
 have wl:∀k a,a∈chs (cs.take k)→a.length≤k:=by
  intro k
  induction k with
  |zero=>intro a h;rw[List.take_zero] at h;cases List.mem_singleton.mp h;exact Nat.le_refl _
  |succ k ih=>
   intro a h
   rw[List.take_add_one] at h
   cases e:cs[k]? with
   |none=>rw[e,Option.toList_none,List.append_nil] at h;exact Nat.le_succ_of_le (ih a h)
   |some c=>
    rw[e,Option.toList_some,kI] at h
    obtain⟨b,hb',h⟩:=List.mem_flatMap.mp h
    obtain⟨o,_,rfl⟩:=List.mem_map.mp h
    rw[List.length_append,List.length_singleton]
    exact Nat.succ_le_succ (ih b hb')
 obtain⟨e',hloop,o2,o4,rfl⟩:=dA (g:=nmG 2) (b:=aT (a7 3 (mk Fd (bi ak)))
  (aT (bn (mk Fe (itD (vD 1))) (nmG 4)
  (bA 3 (mk Fe (bX (itD (vD 2)) dR (oD (aa cF) (vD 1) (bj (ae (vD 0) ak))) [4]))))
  (aY 1 3))) (ds:=cs.map .tup) (env:=[some (.lst (cs.map .tup)),some (.lst [.tup []]),none,none,none])
  (fun i e=>∃o2 o4,e=[some (.lst (cs.map .tup)),some (.lst ((chs (cs.take i)).map .tup)),o2,none,o4]) ⟨none,none,rfl⟩ (by
   rintro i d e hd ⟨o2,o4,rfl⟩
   rw[List.getElem?_map] at hd
   obtain⟨c,hcc,rfl⟩:=Option.map_eq_some_iff.mp hd
   have hic:=(List.getElem?_eq_some_iff.mp hcc).1
   have hcl:=hc c (List.mem_of_getElem? hcc)
   have hb1:=hb (i+1)
   have ht:chs (cs.take (i+1))=(chs (cs.take i)).flatMap fun a=>c.map fun o=>a++[o]:=by rw[List.take_add_one,hcc,Option.toList_some,kI]
   rw[ht] at hb1
   generalize hT:chs (cs.take i)=T at hb1 ht
   have wT:=wl i
   rw[hT] at wT
   obtain⟨e2,hl2,o5,rfl⟩:=dA (g:=nmG 4) (b:=bA 3 (mk Fe (bX (itD (vD 2)) dR (oD (aa cF) (vD 1) (bj (ae (vD 0) ak))) [4]))) (ds:=T.map .tup) (env:=[some (.lst (cs.map .tup)),some (.lst (T.map .tup)),some (.tup c),some (.lst []),o4])
    (fun j e=>∃o5,e=[some (.lst (cs.map .tup)),some (.lst (T.map .tup)),some (.tup c),some (.lst (((T.take j).flatMap fun a=>c.map fun o=>a++[o]).map .tup)),o5]) ⟨o4,rfl⟩ (by
     rintro j d e hd ⟨o5,rfl⟩
     rw[List.getElem?_map] at hd
     obtain⟨a,haa,rfl⟩:=Option.map_eq_some_iff.mp hd
     have hal:=wT a (List.mem_of_getElem? haa)
     have hcomp:bX (itD (vD 2)) dR (oD (aa cF) (vD 1) (bj (ae (vD 0) ak))) [4] [some (.lst (cs.map .tup)),some (.lst (T.map .tup)),some (.tup c),none,some (.tup a)]=some (.lst ((c.map fun o=>a++[o]).map .tup)):=by
      unfold bX
      simp only[itD,bf,bh,aA,cN]
      rw[if_pos hcl]
      have e0:c=c.map id:=by simp
      rw[e0,d6 (f:=fun o=>D.tup (a++[o]))]
      · simp[List.map_map,Function.comp_def]
      · intro o _
        refine⟨rfl, ?_⟩
        show oD (aa cF) (vD 1) (bj (ae (vD 0) ak)) [some o,some (.tup a)]=_
        have:aa cF (.tup a) (.tup [o])=some (.tup (a++[o])):=by
         rw[az]
         show (if _ then _ else _)=_
         rw[if_pos (by rw[List.length_singleton];omega)]
        simp only[oD,bf,bh,aA,bj,ae,ak,this]
     have hlen:((T.take j).flatMap fun a=>c.map fun o=>a++[o]).length+c.length<1000000:=by
      have h1:((T.take (j+1)).flatMap fun a=>c.map fun o=>a++[o]).length=((T.take j).flatMap fun a=>c.map fun o=>a++[o]).length+c.length:=by
       rw[List.take_add_one,haa,Option.toList_some,List.flatMap_append,List.length_append]
       simp
      have h2:((T.take (j+1)).flatMap fun a=>c.map fun o=>a++[o]).length≤(T.flatMap fun a=>c.map fun o=>a++[o]).length:=by
       conv=>rhs;rw[←List.take_append_drop (j+1) T,List.flatMap_append,List.length_append]
       omega
      omega
     refine⟨_,rfl,[some (.lst (cs.map .tup)),some (.lst (T.map .tup)),some (.tup c),some (.lst (((T.take (j+1)).flatMap fun a=>c.map fun o=>a++[o]).map .tup)),some (.tup a)], ?_,_,rfl⟩
     rw[List.take_add_one,haa,Option.toList_some,List.flatMap_append,List.map_append]
     simp only[bA,mk,al,ar,am,List.set_cons_zero,List.set_cons_succ,hcomp,aA,aW,aV]
     rw[if_pos (by rw[List.length_map,List.length_map,List.length_map];exact hlen)]
     simp)
   rw[List.length_map,List.take_of_length_le (Nat.le_refl _)] at hl2
   refine⟨_,rfl,[some (.lst (cs.map .tup)),some (.lst ((chs (cs.take (i+1))).map .tup)),some (.tup c),none,o5], ?_,_,_,rfl⟩
   rw[ht]
   refine(bc (by
    simp(disch:=omega) only[hcl,slD,atO,noO,iaD,itD,ay,aO,aN,aP,bn,ba,bg,aT,a7,bH,bJ,bq,bE,bA,bF,aY,bI,aZ,nmG,bB,aX,bd,bp,ifS,nxS,bD,mk,al,ar,am,aV,aW,oD,uD,bf,bh,cD,ah,ae,ak,bj,bi,bx,orB,bo,bz,orD,bC,aA,aB,aE,if_true,if_false,List.set_cons_zero,List.set_cons_succ,List.length_map,List.length_range,List.length_append,List.length_cons,List.length_nil,aw,aq,ai,aj,ao,au,aD,aF,aG,aH,aI,aJ,aK,aL,aM]
    try rfl)).trans ?_
   refine(bc (by
    simp(disch:=omega) only[cN,hl2,slD,atO,noO,iaD,itD,ay,aO,aN,aP,bn,ba,bg,aT,a7,bH,bJ,bq,bE,bA,bF,aY,bI,aZ,nmG,bB,aX,bd,bp,ifS,nxS,bD,mk,al,ar,am,aV,aW,oD,uD,bf,bh,cD,ah,ae,ak,bj,bi,bx,orB,bo,bz,orD,bC,aA,aB,aE,if_true,if_false,List.set_cons_zero,List.set_cons_succ,List.length_map,List.length_range,List.length_append,List.length_cons,List.length_nil,aw,aq,ai,aj,ao,au,aD,aF,aG,aH,aI,aJ,aK,aL,aM]
    try rfl)).trans ?_
   simp(disch:=omega) only[hcl,slD,atO,noO,iaD,itD,ay,aO,aN,aP,bn,ba,bg,aT,a7,bH,bJ,bq,bE,bA,bF,aY,bI,aZ,nmG,bB,aX,bd,bp,ifS,nxS,bD,mk,al,ar,am,aV,aW,oD,uD,bf,bh,cD,ah,ae,ak,bj,bi,bx,orB,bo,bz,orD,bC,aA,aB,aE,if_true,if_false,List.set_cons_zero,List.set_cons_succ,List.length_map,List.length_range,List.length_append,List.length_cons,List.length_nil,aw,aq,ai,aj,ao,au,aD,aF,aG,aH,aI,aJ,aK,aL,aM]
   )
 rw[List.length_map,List.take_of_length_le (Nat.le_refl _)] at hloop
 refine(bc (by
  simp(disch:=omega) only[ha,slD,atO,noO,iaD,itD,ay,aO,aN,aP,bn,ba,bg,aT,a7,bH,bJ,bq,bE,bA,bF,aY,bI,aZ,nmG,bB,aX,bd,bp,ifS,nxS,bD,mk,al,ar,am,aV,aW,oD,uD,bf,bh,cD,ah,ae,ak,bj,bi,bx,orB,bo,bz,orD,bC,aA,aB,aE,if_true,if_false,List.set_cons_zero,List.set_cons_succ,List.length_map,List.length_range,List.length_append,List.length_cons,List.length_nil,aw,aq,ai,aj,ao,au,aD,aF,aG,aH,aI,aJ,aK,aL,aM]
  try rfl)).trans ?_
 refine(bc (by
  simp(disch:=omega) only[cN,hloop,slD,atO,noO,iaD,itD,ay,aO,aN,aP,bn,ba,bg,aT,a7,bH,bJ,bq,bE,bA,bF,aY,bI,aZ,nmG,bB,aX,bd,bp,ifS,nxS,bD,mk,al,ar,am,aV,aW,oD,uD,bf,bh,cD,ah,ae,ak,bj,bi,bx,orB,bo,bz,orD,bC,aA,aB,aE,if_true,if_false,List.set_cons_zero,List.set_cons_succ,List.length_map,List.length_range,List.length_append,List.length_cons,List.length_nil,aw,aq,ai,aj,ao,au,aD,aF,aG,aH,aI,aJ,aK,aL,aM]
  try rfl)).trans ?_
 simp(disch:=omega) only[ha,slD,atO,noO,iaD,itD,ay,aO,aN,aP,bn,ba,bg,aT,a7,bH,bJ,bq,bE,bA,bF,aY,bI,aZ,nmG,bB,aX,bd,bp,ifS,nxS,bD,mk,al,ar,am,aV,aW,oD,uD,bf,bh,cD,ah,ae,ak,bj,bi,bx,orB,bo,bz,orD,bC,aA,aB,aE,if_true,if_false,List.set_cons_zero,List.set_cons_succ,List.length_map,List.length_range,List.length_append,List.length_cons,List.length_nil,aw,aq,ai,aj,ao,au,aD,aF,aG,aH,aI,aJ,aK,aL,aM]
theorem zE{R:Rod}{b:Br}:fQ [R.o,b.o]=some (.tup (if(R.rounds.lookup b.name).isNone=true then[.bl true] else[.bl true, .bl false])):=by
 rw[fQ,az]
 refine dO ?_
 show fP [some R.o,some b.o]=_
 unfold fP
 have g1:aa (bU .name) b.o=some (.str b.name):=iI rfl
 have hr:=tj (R:=R) (n:=b.name)
 cases e:R.rounds.lookup b.name with
 |none=>
  rw[e] at hr
  simp(disch:=omega) only[g1,hr,rT,nv,Option.isNone_none,slD,atO,noO,iaD,itD,ay,aO,aN,aP,bn,ba,bg,aT,a7,bH,bJ,bq,bE,bA,bF,aY,bI,aZ,nmG,bB,aX,bd,bp,ifS,nxS,bD,mk,al,ar,am,aV,aW,oD,uD,bf,bh,cD,ah,ae,ak,bj,bi,bx,orB,bo,bz,orD,bC,aA,aB,aE,if_true,if_false,List.set_cons_zero,List.set_cons_succ,List.length_map,List.length_range,List.length_append,List.length_cons,List.length_nil,aw,aq,ai,aj,ao,au,aD,aF,aG,aH,aI,aJ,aK,aL,aM]
 |some l=>
  rw[e] at hr
  simp(disch:=omega) only[g1,hr,rT,nu,Option.isNone_some,Bool.false_eq_true,slD,atO,noO,iaD,itD,ay,aO,aN,aP,bn,ba,bg,aT,a7,bH,bJ,bq,bE,bA,bF,aY,bI,aZ,nmG,bB,aX,bd,bp,ifS,nxS,bD,mk,al,ar,am,aV,aW,oD,uD,bf,bh,cD,ah,ae,ak,bj,bi,bx,orB,bo,bz,orD,bC,aA,aB,aE,if_true,if_false,List.set_cons_zero,List.set_cons_succ,List.length_map,List.length_range,List.length_append,List.length_cons,List.length_nil,aw,aq,ai,aj,ao,au,aD,aF,aG,aH,aI,aJ,aK,aL,aM]
def me(f:Bool):List D:=if f=true then[.bl true, .bl false] else[.bl true]
def frs(R:Rod):List Bool:=R.bs.map fun x=> !(R.rounds.lookup x.1.name).isNone
theorem xw:∀fs:List Bool,(chs (fs.map me)).length≤2^fs.length:=by
 intro fs
 induction h:fs.length generalizing fs with
 |zero=>rw[List.length_eq_zero_iff.mp h];decide
 |succ n ih=>
  rcases List.eq_nil_or_concat fs with rfl|⟨gs,g,rfl⟩
  · cases h
  rw[List.concat_eq_append] at h ⊢
  rw[List.length_append,List.length_singleton] at h
  have:=ih gs (by omega)
  rw[List.map_append,List.map_cons,List.map_nil,kI,List.length_flatMap]
  have e:(List.map (fun a=>(List.map (fun o=>a++[o]) (me g)).length) (chs (gs.map me))).sum≤2*(chs (gs.map me)).length:=by
   generalize chs (gs.map me)=T
   induction T with
   |nil=>exact Nat.le_refl _
   |cons a T ih2=>
    rw[List.map_cons,List.sum_cons,List.length_cons,List.length_map]
    have:(me g).length≤2:=by cases g<;>decide
    omega
  rw[Nat.pow_succ]
  omega
theorem zF{R:Rod}{nm:Nat→Str}(wf:R.WF nm):jR [R.o]=some (.lst ((chs ((frs R).map me)).map .tup)):=by
 rw[jR,az]
 refine gl ?_
 show ik [some R.o]=_
 unfold ik
 have n1:=wf.n1
 have hb:=lH wf
 have hcomp:bX (itD (ah dy (ae (vD 0) ak))) dR (ah fQ (ae (vD 1) (ae (vD 0) ak))) [0] [some R.o]=some (.lst (((frs R).map me).map .tup)):=by
  unfold bX
  simp only[itD,ah,ae,ak,bf,bh,aA,hb,cN]
  rw[if_pos (by rw[List.length_map];omega),d6 (f:=fun x:Br×Int=>D.tup (me (!(R.rounds.lookup x.1.name).isNone)))]
  · simp[frs,List.map_map,Function.comp_def]
  · intro x _
    refine⟨rfl, ?_⟩
    show ah fQ (ae (vD 1) (ae (vD 0) ak)) [some x.1.o,some R.o]=_
    simp only[ah,ae,ak,bf,bh,aA,zE]
    congr 2
    cases (R.rounds.lookup x.1.name).isNone<;>rfl
 have fl:(frs R).length≤6:=by unfold frs;rw[List.length_map];exact n1
 have hch:=vT (cs:=(frs R).map me) (fun k=>by
  rw[←List.map_take]
  refine Nat.lt_of_le_of_lt (xw _) ?_
  have:((frs R).take k).length≤6:=by rw[List.length_take];omega
  exact Nat.lt_of_le_of_lt (Nat.pow_le_pow_right (by decide) this) (by decide)) (fun c hc=>by
  obtain⟨f,_,rfl⟩:=List.mem_map.mp hc
  cases f<;>decide) (by rw[List.length_map];omega)
 unfold bd
 simp only[ah,ae,ak,hcomp,aA,hch]
def Fit(rs:List (Str×Int)):List (Br×Int)→List Bool→Prop
 |[],[]=>True
 |x::r,t::w=>(t=false→∃l,rs.lookup x.1.name=some l)∧Fit rs r w
 |_,_=>False
theorem kJ{rs:List (Str×Int)}{x:Br×Int}{t:Bool}(h:t=false→∃l,rs.lookup x.1.name=some l):∀{bs:List (Br×Int)} {w:List Bool},Fit rs bs w→Fit rs (bs++[x]) (w++[t])
 |[],[],_=>⟨h,trivial⟩
 |_::r,_::w,⟨h1,h2⟩=>⟨h1,kJ h h2⟩
 |[],_::_,q=>q.elim
 |_::_,[],q=>q.elim
theorem pX{rs:List (Str×Int)}:∀{bs:List (Br×Int)} {w:List Bool},Fit rs bs w→w.length=bs.length
 |[],[],_=>rfl
 |_::r,_::w,⟨_,h2⟩=>congrArg Nat.succ (pX h2)
 |[],_::_,q=>q.elim
 |_::_,[],q=>q.elim
theorem tm{rs:List (Str×Int)}:∀(n:Nat) (bs:List (Br×Int)),bs.length=n→∀c∈chs ((bs.map fun x=> !(rs.lookup x.1.name).isNone).map me),∃w:List Bool,c=w.map .bl∧Fit rs bs w
 |0,bs,h,c,hc=>by
  rw[List.length_eq_zero_iff.mp h] at hc ⊢
  have hc:c∈[([]:List D)]:=hc
  rw[List.mem_singleton.mp hc]
  exact⟨[],rfl,trivial⟩
 |n+1,bs,h,c,hc=>by
  rcases List.eq_nil_or_concat bs with rfl|⟨gs,g,rfl⟩
  · cases h
  rw[List.concat_eq_append] at h hc ⊢
  rw[List.length_append,List.length_singleton] at h
  rw[List.map_append,List.map_append,List.map_cons,List.map_nil,List.map_cons,List.map_nil,kI] at hc
  obtain⟨a,ha,hc⟩:=List.mem_flatMap.mp hc
  obtain⟨w,rfl,hw⟩:=tm n gs (by omega) a ha
  obtain⟨o,ho,rfl⟩:=List.mem_map.mp hc
  cases e:rs.lookup g.1.name with
  |none=>
   rw[e] at ho
   have ho:o∈[D.bl true]:=ho
   rw[List.mem_singleton.mp ho]
   exact⟨w++[true],by rw[List.map_append];rfl,kJ (fun z=>by cases z) hw⟩
  |some l=>
   rw[e] at ho
   have ho:o∈[D.bl true, .bl false]:=ho
   rcases List.mem_cons.mp ho with rfl|ho
   · exact⟨w++[true],by rw[List.map_append];rfl,kJ (fun z=>by cases z) hw⟩
   · rw[List.mem_singleton.mp ho]
     exact⟨w++[false],by rw[List.map_append];rfl,kJ (fun _=>⟨l,e⟩) hw⟩
def ovD(R:Rod)(w:List Bool):D:= .dk (R.bs.map fun x=>(.inr x.1.name:Key)) (w.map .bl)
theorem qS{R:Rod}{nm:Nat→Str}(wf:R.WF nm):(R.bs.map fun x=>(.inr x.1.name:Key)).Nodup:=by
 refine List.pairwise_iff_getElem.mpr fun i j hi hj hij he=> ?_
 rw[List.length_map] at hi hj
 rw[List.getElem_map,List.getElem_map] at he
 have h1:R.bs[i].1.name=nm i:=wf.br i R.bs[i].1 R.bs[i].2 (List.getElem?_eq_getElem hi)
 have h2:R.bs[j].1.name=nm j:=wf.br j R.bs[j].1 R.bs[j].2 (List.getElem?_eq_getElem hj)
 have he:R.bs[i].1.name=R.bs[j].1.name:=Sum.inr.inj he
 rw[h1,h2] at he
 have n1:=wf.n1
 have:=wf.inj i j (by omega) (by omega) he
 omega
theorem qT{α:Type}{f:α→Str}:∀{xs:List α},lp (xs.map fun x=> .str (f x))=some (xs.map fun x=>(.inr (f x):Key))
 |[]=>rfl
 |x::xs=>by
  show (sN (.str (f x))).bind _=_
  rw[qT (xs:=xs)]
  rfl
theorem zG{R:Rod}{nm:Nat→Str}(wf:R.WF nm){w:List Bool}(hw:w.length=R.bs.length):gj [R.o, .tup (w.map .bl)]=some (ovD R w):=by
 rw[gj,az]
 refine dO ?_
 show dL [some R.o,some (.tup (w.map .bl))]=_
 unfold dL
 have n1:=wf.n1
 have hb:=lH wf
 have hcomp:bX (itD (ah dy (ae (vD 0) ak))) dR (uD (aa (bU .name)) (vD 0)) [] [some R.o,some (.tup (w.map .bl))]=some (.lst (R.bs.map fun x=> .str x.1.name)):=by
  unfold bX
  simp only[itD,ah,ae,ak,bf,aA,hb,cN]
  rw[if_pos (by rw[List.length_map];omega),d6 (f:=fun x:Br×Int=>D.str x.1.name)]
  · rfl
  · intro x _
    have g1:aa (bU .name) x.1.o=some (.str x.1.name):=iI rfl
    exact⟨rfl,by simp only[uD,bf,aA,g1]⟩
 have hz:aa sT [.lst (R.bs.map fun x=> .str x.1.name), .tup (w.map .bl)]=some (ovD R w):=by
  rw[az]
  show (lp _).bind _=_
  rw[qT,aA]
  exact if_pos ⟨qS wf,by rw[List.length_map,List.length_map,hw],by rw[List.length_map];exact wf.n0,by rw[List.length_map];omega⟩
 simp(disch:=omega) only[hcomp,hz,slD,atO,noO,iaD,itD,ay,aO,aN,aP,bn,ba,bg,aT,a7,bH,bJ,bq,bE,bA,bF,aY,bI,aZ,nmG,bB,aX,bd,bp,ifS,nxS,bD,mk,al,ar,am,aV,aW,oD,uD,bf,bh,cD,ah,ae,ak,bj,bi,bx,orB,bo,bz,orD,bC,aA,aB,aE,if_true,if_false,List.set_cons_zero,List.set_cons_succ,List.length_map,List.length_range,List.length_append,List.length_cons,List.length_nil,aw,aq,ai,aj,ao,au,aD,aF,aG,aH,aI,aJ,aK,aL,aM]
theorem tp{κ:Type}[DecidableEq κ]{x:κ}{d:D}:∀{ks:List κ} {ds:List D} {k:Nat},ks.Nodup→ks[k]? =some x→ds[k]? =some d→mZ ks ds x=some d
 |[],_,_,_,h,_=>by cases h
 |_::_,[],_,_,_,h=>by cases h
 |j::ks,e::ds,0,_,h1,h2=>by
  have a:j=x:=Option.some.inj h1
  have b:e=d:=Option.some.inj h2
  show (if j=x then some e else mZ ks ds x)=_
  rw[if_pos a,b]
 |j::ks,e::ds,k+1,hn,h1,h2=>by
  have h1:ks[k]? =some x:=h1
  have h2:ds[k]? =some d:=h2
  have hne:j≠x:=fun z=>(List.nodup_cons.mp hn).1 (by rw[z];exact List.mem_of_getElem? h1)
  show (if j=x then some e else mZ ks ds x)=_
  rw[if_neg hne]
  exact tp (List.nodup_cons.mp hn).2 h1 h2
theorem AL{R:Rod}{nm:Nat→Str}(wf:R.WF nm){w:List Bool}{k:Nat}{b:Br}{o:Int}{t:Bool}(h1:R.bs[k]? =some (b,o))(h2:w[k]? =some t):aa pM (ovD R w) (.str b.name)=some (.bl t):=by
 rw[az]
 show (some (mZ (R.bs.map fun x=>(.inr x.1.name:Key)) (w.map .bl) (.inr b.name))).join=_
 rw[tp (qS wf) (by rw[List.getElem?_map,h1];rfl) (by rw[List.getElem?_map,h2];rfl)]
 rfl
def jx(rs:List (Str×Int))(b:Br)(t:Bool):Int:=if t=true then b.length else(rs.lookup b.name).getD 0
def dB(rs:List (Str×Int)):List (Br×Int)→List Bool→Int→List (Br×Int)
 |x::r,t::w,a=>(if t=true then[(x.1,a)] else[])++dB rs r w (a+jx rs x.1 t+x.2)
 |_,_,_=>[]
def ny(rs:List (Str×Int)):List (Br×Int)→List Bool→List Int
 |x::r,t::w=>jx rs x.1 t::x.2::ny rs r w
 |_,_=>[]
def xx(R:Rod)(ov:D):List (Br×Int)→List Bool→Prop
 |[],[]=>True
 |x::r,t::w=>aa pM ov (.str x.1.name)=some (.bl t)∧(t=false→∃l,R.rounds.lookup x.1.name=some l)∧xx R ov r w
 |_,_=>False
theorem tq{R:Rod}{ov:D}:∀{bs:List (Br×Int)} {w:List Bool},Fit R.rounds bs w→(∀(k:Nat) (x:Br×Int) (t:Bool),bs[k]? =some x→w[k]? =some t→aa pM ov (.str x.1.name)=some (.bl t))→xx R ov bs w
 |[],[],_,_=>trivial
 |x::r,t::w,⟨h1,h2⟩,h=>⟨h 0 x t rfl rfl,h1,tq h2 fun k y u e1 e2=>h (k+1) y u e1 e2⟩
 |[],_::_,q,_=>q.elim
 |_::_,[],q,_=>q.elim
theorem vU{R:Rod}{l:Int}{ov:D}:dM [R.o,opO l,ov]=some (.int l):=by
 rw[dM,az]
 refine dO ?_
 show cO [some R.o,some (opO l),some ov]=_
 unfold cO
 have h1:aa (isC .Open) [opO l]=some (.bl true):=oB rfl
 have h2:aa (bU .length) (opO l)=some (.int l):=iI rfl
 simp(disch:=omega) only[h1,h2,slD,atO,noO,iaD,itD,ay,aO,aN,aP,bn,ba,bg,aT,a7,bH,bJ,bq,bE,bA,bF,aY,bI,aZ,nmG,bB,aX,bd,bp,ifS,nxS,bD,mk,al,ar,am,aV,aW,oD,uD,bf,bh,cD,ah,ae,ak,bj,bi,bx,orB,bo,bz,orD,bC,aA,aB,aE,if_true,if_false,List.set_cons_zero,List.set_cons_succ,List.length_map,List.length_range,List.length_append,List.length_cons,List.length_nil,aw,aq,ai,aj,ao,au,aD,aF,aG,aH,aI,aJ,aK,aL,aM]
theorem vV{R:Rod}{b:Br}{ov:D}{t:Bool}(h:aa pM ov (.str b.name)=some (.bl t))(hf:t=false→∃l,R.rounds.lookup b.name=some l):dM [R.o,b.o,ov]=some (.int (jx R.rounds b t)):=by
 rw[dM,az]
 refine dO ?_
 show cO [some R.o,some b.o,some ov]=_
 unfold cO
 have h1:aa (isC .Open) [b.o]=some (.bl false):=oB rfl
 have h2:aa (bU .length) b.o=some (.int b.length):=iI rfl
 have h3:aa (bU .name) b.o=some (.str b.name):=iI rfl
 cases t with
 |true=>
  have e:jx R.rounds b true=b.length:=rfl
  rw[e]
  simp(disch:=omega) only[h1,h2,h3,h,Bool.false_eq_true,slD,atO,noO,iaD,itD,ay,aO,aN,aP,bn,ba,bg,aT,a7,bH,bJ,bq,bE,bA,bF,aY,bI,aZ,nmG,bB,aX,bd,bp,ifS,nxS,bD,mk,al,ar,am,aV,aW,oD,uD,bf,bh,cD,ah,ae,ak,bj,bi,bx,orB,bo,bz,orD,bC,aA,aB,aE,if_true,if_false,List.set_cons_zero,List.set_cons_succ,List.length_map,List.length_range,List.length_append,List.length_cons,List.length_nil,aw,aq,ai,aj,ao,au,aD,aF,aG,aH,aI,aJ,aK,aL,aM]
 |false=>
  obtain⟨l,hl⟩:=hf rfl
  have e:jx R.rounds b false=l:=by unfold jx;rw[hl];rfl
  have hr:=tj (R:=R) (n:=b.name)
  rw[hl] at hr
  rw[e]
  simp(disch:=omega) only[h1,h2,h3,h,hr,rT,Bool.false_eq_true,slD,atO,noO,iaD,itD,ay,aO,aN,aP,bn,ba,bg,aT,a7,bH,bJ,bq,bE,bA,bF,aY,bI,aZ,nmG,bB,aX,bd,bp,ifS,nxS,bD,mk,al,ar,am,aV,aW,oD,uD,bf,bh,cD,ah,ae,ak,bj,bi,bx,orB,bo,bz,orD,bC,aA,aB,aE,if_true,if_false,List.set_cons_zero,List.set_cons_succ,List.length_map,List.length_range,List.length_append,List.length_cons,List.length_nil,aw,aq,ai,aj,ao,au,aD,aF,aG,aH,aI,aJ,aK,aL,aM]
def lgO(x:Br×Int):D:= .tup [x.1.o, .int x.2]
theorem oQ{g:GF}{b:SF}{x:D}{xs:List D}{e e1 e2:PD.Env}(h1:g x e=some e1)(h2:b e1=some (.nx e2)):fk g b (x::xs) e=fk g b xs e2:=by rw[fk,h1,aA,h2,aA]
theorem tt{R:Rod}{l a:Int}{ov y:D}{acc:List (Br×Int)}{o5:Option D}{xs:List D}:
 fk (nmG 5) (lB0) (opO l::xs) [some R.o,some y,some ov,some (.lst (acc.map lgO)),some (.int a),o5]=fk (nmG 5) (lB0) xs [some R.o,some y,some ov,some (.lst (acc.map lgO)),some (.int (a+l)),some (opO l)]:=by
 refine oQ rfl ?_
 have h1:aa (isC .Bridge) [opO l]=some (.bl false):=oB rfl
 have h2:=vU (R:=R) (l:=l) (ov:=ov)
 refine(bc (by
  simp(disch:=omega) only[h1,Bool.false_eq_true,slD,atO,noO,iaD,itD,ay,aO,aN,aP,bn,ba,bg,aT,a7,bH,bJ,bq,bE,bA,bF,aY,bI,aZ,nmG,bB,aX,bd,bp,ifS,nxS,bD,mk,al,ar,am,aV,aW,oD,uD,bf,bh,cD,ah,ae,ak,bj,bi,bx,orB,bo,bz,orD,bC,aA,aB,aE,if_true,if_false,List.set_cons_zero,List.set_cons_succ,List.length_map,List.length_range,List.length_append,List.length_cons,List.length_nil,aw,aq,ai,aj,ao,au,aD,aF,aG,aH,aI,aJ,aK,aL,aM]
  try rfl)).trans ?_
 simp(disch:=omega) only[h2,slD,atO,noO,iaD,itD,ay,aO,aN,aP,bn,ba,bg,aT,a7,bH,bJ,bq,bE,bA,bF,aY,bI,aZ,nmG,bB,aX,bd,bp,ifS,nxS,bD,mk,al,ar,am,aV,aW,oD,uD,bf,bh,cD,ah,ae,ak,bj,bi,bx,orB,bo,bz,orD,bC,aA,aB,aE,if_true,if_false,List.set_cons_zero,List.set_cons_succ,List.length_map,List.length_range,List.length_append,List.length_cons,List.length_nil,aw,aq,ai,aj,ao,au,aD,aF,aG,aH,aI,aJ,aK,aL,aM]
theorem xy{R:Rod}{b:Br}{a:Int}{ov y:D}{t:Bool}{acc:List (Br×Int)}{o5:Option D}{xs:List D}(h:aa pM ov (.str b.name)=some (.bl t))(hf:t=false→∃l,R.rounds.lookup b.name=some l)(hlen:acc.length<1000000):
 fk (nmG 5) (lB0) (b.o::xs) [some R.o,some y,some ov,some (.lst (acc.map lgO)),some (.int a),o5]=fk (nmG 5) (lB0) xs [some R.o,some y,some ov,some (.lst ((acc++if t=true then[(b,a)] else[]).map lgO)),some (.int (a+jx R.rounds b t)),some b.o]:=by
 refine oQ rfl ?_
 have h1:aa (isC .Bridge) [b.o]=some (.bl true):=oB rfl
 have h3:aa (bU .name) b.o=some (.str b.name):=iI rfl
 have h2:=vV h hf
 cases t with
 |true=>
  rw[aB,List.map_append,List.map_cons,List.map_nil]
  refine(bc (by
   simp(disch:=omega) only[h1,h3,h,hlen,slD,atO,noO,iaD,itD,ay,aO,aN,aP,bn,ba,bg,aT,a7,bH,bJ,bq,bE,bA,bF,aY,bI,aZ,nmG,bB,aX,bd,bp,ifS,nxS,bD,mk,al,ar,am,aV,aW,oD,uD,bf,bh,cD,ah,ae,ak,bj,bi,bx,orB,bo,bz,orD,bC,aA,aB,aE,if_true,if_false,List.set_cons_zero,List.set_cons_succ,List.length_map,List.length_range,List.length_append,List.length_cons,List.length_nil,aw,aq,ai,aj,ao,au,aD,aF,aG,aH,aI,aJ,aK,aL,aM]
   try rfl)).trans ?_
  simp(disch:=omega) only[h2,lgO,slD,atO,noO,iaD,itD,ay,aO,aN,aP,bn,ba,bg,aT,a7,bH,bJ,bq,bE,bA,bF,aY,bI,aZ,nmG,bB,aX,bd,bp,ifS,nxS,bD,mk,al,ar,am,aV,aW,oD,uD,bf,bh,cD,ah,ae,ak,bj,bi,bx,orB,bo,bz,orD,bC,aA,aB,aE,if_true,if_false,List.set_cons_zero,List.set_cons_succ,List.length_map,List.length_range,List.length_append,List.length_cons,List.length_nil,aw,aq,ai,aj,ao,au,aD,aF,aG,aH,aI,aJ,aK,aL,aM]
 |false=>
  rw[aE,List.append_nil]
  refine(bc (by
   simp(disch:=omega) only[h1,h3,h,Bool.false_eq_true,slD,atO,noO,iaD,itD,ay,aO,aN,aP,bn,ba,bg,aT,a7,bH,bJ,bq,bE,bA,bF,aY,bI,aZ,nmG,bB,aX,bd,bp,ifS,nxS,bD,mk,al,ar,am,aV,aW,oD,uD,bf,bh,cD,ah,ae,ak,bj,bi,bx,orB,bo,bz,orD,bC,aA,aB,aE,if_true,if_false,List.set_cons_zero,List.set_cons_succ,List.length_map,List.length_range,List.length_append,List.length_cons,List.length_nil,aw,aq,ai,aj,ao,au,aD,aF,aG,aH,aI,aJ,aK,aL,aM]
   try rfl)).trans ?_
  simp(disch:=omega) only[h2,slD,atO,noO,iaD,itD,ay,aO,aN,aP,bn,ba,bg,aT,a7,bH,bJ,bq,bE,bA,bF,aY,bI,aZ,nmG,bB,aX,bd,bp,ifS,nxS,bD,mk,al,ar,am,aV,aW,oD,uD,bf,bh,cD,ah,ae,ak,bj,bi,bx,orB,bo,bz,orD,bC,aA,aB,aE,if_true,if_false,List.set_cons_zero,List.set_cons_succ,List.length_map,List.length_range,List.length_append,List.length_cons,List.length_nil,aw,aq,ai,aj,ao,au,aD,aF,aG,aH,aI,aJ,aK,aL,aM]
theorem qU{R:Rod}{ov y:D}:∀(bs:List (Br×Int)) (w:List Bool) (a:Int) (acc:List (Br×Int)) (o5:Option D),xx R ov bs w→acc.length+bs.length<1000000→
 ∃o5',fk (nmG 5) (lB0) ((bsP bs).map Pc.o) [some R.o,some y,some ov,some (.lst (acc.map lgO)),some (.int a),o5]=some (.nx [some R.o,some y,some ov,some (.lst ((acc++dB R.rounds bs w a).map lgO)),some (.int (a+(ny R.rounds bs w).sum)),o5'])
 |[],[],a,acc,o5,_,_=>⟨o5,by
  show some (Out.nx _)=_
  rw[show dB R.rounds [] [] a=[] from rfl,show ny R.rounds [] []=[] from rfl,List.append_nil,List.sum_nil,Int.add_zero]⟩
 |(b,o)::bs,t::w,a,acc,o5,⟨h1,h2,h3⟩,hl=>by
  rw[List.length_cons] at hl
  obtain⟨o5',ih⟩:=qU (R:=R) (ov:=ov) (y:=y) bs w (a+jx R.rounds b t+o) (acc++if t=true then[(b,a)] else[]) (some (opO o)) h3 (by
   rw[List.length_append]
   have:(if t=true then[(b,a)] else[]).length≤1:=by split<;>simp
   omega)
  refine⟨o5', ?_⟩
  show fk _ _ (b.o::opO o::(bsP bs).map Pc.o) _=_
  rw[xy h1 h2 (by omega),tt,ih]
  have e1:dB R.rounds ((b,o)::bs) (t::w) a=(if t=true then[(b,a)] else[])++dB R.rounds bs w (a+jx R.rounds b t+o):=rfl
  have e2:(ny R.rounds ((b,o)::bs) (t::w)).sum=jx R.rounds b t+(o+(ny R.rounds bs w).sum):=rfl
  rw[e1,e2,List.append_assoc,show a+jx R.rounds b t+o+(ny R.rounds bs w).sum=a+(jx R.rounds b t+(o+(ny R.rounds bs w).sum)) from by omega]
 |[],_::_,_,_,_,q,_=>q.elim
 |_::_,[],_,_,_,q,_=>q.elim
theorem zH{R:Rod}{nm:Nat→Str}(wf:R.WF nm){w:List Bool}(hw:Fit R.rounds R.bs w):ja [R.o, .tup (w.map .bl)]=some (.lst ((dB R.rounds R.bs w R.first).map lgO)):=by
 have n1:=wf.n1
 have T:xx R (ovD R w) R.bs w:=tq hw fun k x t e1 e2=>AL wf (o:=x.2) e1 e2
 have ho:=zG wf (pX hw)
 obtain⟨o5,hl⟩:=qU (y:= .tup (w.map .bl)) R.bs w (0+R.first) [] (some (opO R.first)) T (by simp;omega)
 have hl2:fk (nmG 5) (lB0) (R.pcs.map Pc.o) [some R.o,some (.tup (w.map .bl)),some (ovD R w),some (.lst []),some (.int 0),none]=_:=(tt (R:=R) (acc:=[]) (a:=0)).trans hl
 rw[Int.zero_add,List.nil_append] at hl2
 rw[ja,az]
 refine gl ?_
 show il [some R.o,some (.tup (w.map .bl)),none,none,none,none]=_
 unfold il
 refine(bc (by
  simp(disch:=omega) only[ho,slD,atO,noO,iaD,itD,ay,aO,aN,aP,bn,ba,bg,aT,a7,bH,bJ,bq,bE,bA,bF,aY,bI,aZ,nmG,bB,aX,bd,bp,ifS,nxS,bD,mk,al,ar,am,aV,aW,oD,uD,bf,bh,cD,ah,ae,ak,bj,bi,bx,orB,bo,bz,orD,bC,aA,aB,aE,if_true,if_false,List.set_cons_zero,List.set_cons_succ,List.length_map,List.length_range,List.length_append,List.length_cons,List.length_nil,aw,aq,ai,aj,ao,au,aD,aF,aG,aH,aI,aJ,aK,aL,aM]
  try rfl)).trans ?_
 refine(bc (by
  simp(disch:=omega) only[ho,slD,atO,noO,iaD,itD,ay,aO,aN,aP,bn,ba,bg,aT,a7,bH,bJ,bq,bE,bA,bF,aY,bI,aZ,nmG,bB,aX,bd,bp,ifS,nxS,bD,mk,al,ar,am,aV,aW,oD,uD,bf,bh,cD,ah,ae,ak,bj,bi,bx,orB,bo,bz,orD,bC,aA,aB,aE,if_true,if_false,List.set_cons_zero,List.set_cons_succ,List.length_map,List.length_range,List.length_append,List.length_cons,List.length_nil,aw,aq,ai,aj,ao,au,aD,aF,aG,aH,aI,aJ,aK,aL,aM]
  try rfl)).trans ?_
 refine(bc (by
  simp(disch:=omega) only[ho,slD,atO,noO,iaD,itD,ay,aO,aN,aP,bn,ba,bg,aT,a7,bH,bJ,bq,bE,bA,bF,aY,bI,aZ,nmG,bB,aX,bd,bp,ifS,nxS,bD,mk,al,ar,am,aV,aW,oD,uD,bf,bh,cD,ah,ae,ak,bj,bi,bx,orB,bo,bz,orD,bC,aA,aB,aE,if_true,if_false,List.set_cons_zero,List.set_cons_succ,List.length_map,List.length_range,List.length_append,List.length_cons,List.length_nil,aw,aq,ai,aj,ao,au,aD,aF,aG,aH,aI,aJ,aK,aL,aM]
  try rfl)).trans ?_
 refine(bc (by
  simp(disch:=omega) only[qQ,cN,hl2,slD,atO,noO,iaD,itD,ay,aO,aN,aP,bn,ba,bg,aT,a7,bH,bJ,bq,bE,bA,bF,aY,bI,aZ,nmG,bB,aX,bd,bp,ifS,nxS,bD,mk,al,ar,am,aV,aW,oD,uD,bf,bh,cD,ah,ae,ak,bj,bi,bx,orB,bo,bz,orD,bC,aA,aB,aE,if_true,if_false,List.set_cons_zero,List.set_cons_succ,List.length_map,List.length_range,List.length_append,List.length_cons,List.length_nil,aw,aq,ai,aj,ao,au,aD,aF,aG,aH,aI,aJ,aK,aL,aM]
  try rfl)).trans ?_
 simp(disch:=omega) only[ho,slD,atO,noO,iaD,itD,ay,aO,aN,aP,bn,ba,bg,aT,a7,bH,bJ,bq,bE,bA,bF,aY,bI,aZ,nmG,bB,aX,bd,bp,ifS,nxS,bD,mk,al,ar,am,aV,aW,oD,uD,bf,bh,cD,ah,ae,ak,bj,bi,bx,orB,bo,bz,orD,bC,aA,aB,aE,if_true,if_false,List.set_cons_zero,List.set_cons_succ,List.length_map,List.length_range,List.length_append,List.length_cons,List.length_nil,aw,aq,ai,aj,ao,au,aD,aF,aG,aH,aI,aJ,aK,aL,aM]
theorem qx{xs:List D}{x:D}:atI (xs++[x]) (-1)=some x:=by
 unfold atI ixN
 rw[if_neg (by omega),if_pos (by rw[List.length_append,List.length_singleton];omega)]
 show (xs++[x])[((-1:Int)+((xs++[x]).length:Int)).toNat]? =_
 rw[show ((-1:Int)+((xs++[x]).length:Int)).toNat=xs.length from by rw[List.length_append,List.length_singleton];omega,List.getElem?_append_right (Nat.le_refl _),Nat.sub_self]
 rfl
theorem jM{rs:List (Str×Int)}:∀{bs:List (Br×Int)} {w:List Bool} {a:Int},(dB rs bs w a).length≤bs.length
 |[],_,_=>Nat.zero_le _
 |_::_,[],_=>Nat.zero_le _
 |x::bs,t::w,a=>by
  have ih:=jM (rs:=rs) (bs:=bs) (w:=w) (a:=a+jx rs x.1 t+x.2)
  show ((if t=true then[(x.1,a)] else[])++dB rs bs w (a+jx rs x.1 t+x.2)).length≤bs.length+1
  rw[List.length_append]
  have:(if t=true then[(x.1,a)] else[]).length≤1:=by split<;>simp
  omega
theorem tu{i j:Int}(h: -1000000<i∧i<1000000∧ -1000000<j∧j<1000000):aa ko [.int i, .int j]=some ((List.range (j-i).toNat).map fun(k:Nat)=>D.int (i+(k:Int))):=by rw[az];exact if_pos h
theorem kK{i j:Int}:aa lO [.int i, .int j]=some (.int (if j>i then j else i)):=by rw[az];rfl
theorem pY{i j:Int}:aa mS [.int i, .int j]=some (.int (if j<i then j else i)):=by rw[az];rfl
theorem vW{xs:List Int}:aa qD [.lst (xs.map D.int)]=some (.int xs.sum):=by
 rw[az]
 show (inS _).map _=_
 rw[my]
 rfl
theorem kL{xs:List Int}{i:Int}(h0:0≤i)(h1:i<xs.length):∃x∈xs,atI (xs.map D.int) i=some (.int x):=by
 obtain⟨k,rfl⟩:=Int.eq_ofNat_of_zero_le h0
 have hk:k<xs.length:=by omega
 exact⟨xs[k],List.getElem_mem hk,iH rfl (by rw[List.getElem?_map,List.getElem?_eq_getElem hk];rfl)⟩
theorem nz:∀(r:List Int) (b:Int),b≤mxL b r∧∀x∈r,x≤mxL b r
 |[],b=>⟨Int.le_refl _,fun x h=>by cases h⟩
 |y::r,b=>by
  have h:=nz r (if y>b then y else b)
  have e:mxL b (y::r)=mxL (if y>b then y else b) r:=rfl
  rw[e]
  refine⟨?_,fun x hx=> ?_⟩
  · have:=h.1
    split at this<;>omega
  · rcases List.mem_cons.mp hx with rfl|hx
    · have:=h.1
      split at this<;>omega
    · exact h.2 x hx
theorem pZ:∀(r:List Int) (b:Int),mxL b r∈b::r
 |[],b=>List.mem_cons_self
 |y::r,b=>by
  have h:=pZ r (if y>b then y else b)
  show mxL (if y>b then y else b) r∈_
  rcases List.mem_cons.mp h with h|h
  · rw[h]
    split
    · exact List.mem_cons_of_mem _ List.mem_cons_self
    · exact List.mem_cons_self
  · exact List.mem_cons_of_mem _ (List.mem_cons_of_mem _ h)
def nO(off:Nat→Int)(W:Int)(i k:Nat):Bool:=decide (i≤k)&&decide (off k-off i<W)
def win(off:Nat→Int)(W:Int)(n i:Nat):List Nat:=(List.range n).filter (nO off W i)
def gt(f:Nat→Int)(l:List Nat):Int:=(l.map f).sum
theorem p0{f:Nat→Int}(hf:∀k,0≤f k):∀l:List Nat,0≤gt f l
 |[]=>Int.le_refl _
 |k::l=>by
  have:=p0 hf l
  have:=hf k
  show 0≤f k+gt f l
  omega
structure Wh where
 gap:Int
 low:Int
 high:Int
def Wh.t(w:Wh):D:= .tup [.int w.gap, .int w.low, .int w.high]
structure Wh.Ok(w:Wh):Prop where
 g:1≤w.gap
 l:0≤w.low
 h:0≤w.high
 u:w.high≤1000000
theorem oR{c:Int}{n:Nat}(h8:n≤8):∃ws:List Wh,ws.length=n∧(∀w∈ws,w.Ok)∧gh [.int c, .int (n:Int)]=some (.lst (ws.map Wh.t)):=by
 obtain⟨e',hloop,ws,left,o4,o5,o6,o7,o8,o9,rfl,hl,hok,_,_⟩:=dA (g:=nmG 4) (b:=lB1) (ds:=(List.range n).map fun(i:Nat)=>D.int (0+(i:Int))) (env:=[some (.int c),some (.int (n:Int)),some (.lst []),some (.int 200),none,none,none,none,none,none])
  (fun i e=>∃(ws:List Wh) (left:Int) (o4 o5 o6 o7 o8 o9:Option D),e=[some (.int c),some (.int (n:Int)),some (.lst (ws.map Wh.t)),some (.int left),o4,o5,o6,o7,o8,o9]∧ws.length=i∧(∀w∈ws,w.Ok)∧(n:Int)-(i:Int)≤left∧left≤200)
  ⟨[],200,none,none,none,none,none,none,rfl,rfl,fun w h=>(by cases h),by omega,by omega⟩ (by
    rintro i d e hd ⟨ws,left,o4,o5,o6,o7,o8,o9,rfl,hl,hok,hlo,hhi⟩
    rw[List.getElem?_map] at hd
    obtain⟨k,hk,rfl⟩:=Option.map_eq_some_iff.mp hd
    obtain⟨hk8,hk⟩:=List.getElem?_eq_some_iff.mp hk
    rw[List.getElem_range] at hk
    subst hk
    have hi:i<n:=by simpa using hk8
    refine⟨_,rfl, ?_⟩
    have hmix:=qP (c:=c) (o:=80+(i:Int)) (p:=1000003) (by decide) (by decide) (by omega) (by omega)
    have d0:=mB c (80+(i:Int)) 1000003
    generalize qO c (80+(i:Int)) 1000003=dr at hmix d0
    obtain⟨m,hm,m1,m2⟩:∃m:Int,(if left-((n:Int)-1-(i:Int))<100 then left-((n:Int)-1-(i:Int)) else 100)=m∧1≤m∧m≤left-((n:Int)-1-(i:Int)):=⟨_,rfl,by split<;>omega,by split<;>omega⟩
    obtain⟨q,hq,q1,q2⟩:∃q:Int,(if 30<m then 30 else m)=q∧1≤q∧q≤m:=⟨_,rfl,by split<;>omega,by split<;>omega⟩
    have b1:0≤dr/4%m:=Int.emod_nonneg _ (by omega)
    have b2:dr/4%m<m:=Int.emod_lt_of_pos _ (by omega)
    have b3:0≤dr/4%q:=Int.emod_nonneg _ (by omega)
    have b4:dr/4%q<q:=Int.emod_lt_of_pos _ (by omega)
    obtain⟨g,gm,hg⟩:=kL (xs:=[1,m,1+dr/4%m,1+dr/4%q]) (i:=dr%4) (Int.emod_nonneg _ (by decide)) (Int.emod_lt_of_pos _ (by decide))
    have hg:atI [D.int 1, .int m, .int (1+dr/4%m), .int (1+dr/4%q)] (dr%4)=some (.int g):=hg
    have g1:1≤g∧g≤m:=by
     simp only[List.mem_cons,List.not_mem_nil,or_false] at gm
     omega
    obtain⟨h,hm2,hh⟩:=kL (xs:=[dr/16%10,dr/16%1000,1000000,(c+dr)%1000001]) (i:=dr/4%4) (Int.emod_nonneg _ (by decide)) (Int.emod_lt_of_pos _ (by decide))
    have hh:atI [D.int (dr/16%10), .int (dr/16%1000), .int 1000000, .int ((c+dr)%1000001)] (dr/4%4)=some (.int h):=hh
    have h1:0≤h:=by
     simp only[List.mem_cons,List.not_mem_nil,or_false] at hm2
     omega
    have h2:h≤1000000:=by
     simp only[List.mem_cons,List.not_mem_nil,or_false] at hm2
     omega
    have b5:0≤dr/64%(h+1):=Int.emod_nonneg _ (by omega)
    obtain⟨l,lm,hlw⟩:=kL (xs:=[h,0,dr/64%(h+1)]) (i:=dr/32%3) (Int.emod_nonneg _ (by decide)) (Int.emod_lt_of_pos _ (by decide))
    have hlw:atI [D.int h, .int 0, .int (dr/64%(h+1))] (dr/32%3)=some (.int l):=hlw
    have l1:0≤l:=by
     simp only[List.mem_cons,List.not_mem_nil,or_false] at lm
     omega
    have hlen:ws.length<1000000:=by omega
    refine⟨[some (.int c),some (.int (n:Int)),some (.lst ((ws++[Wh.mk g l h]).map Wh.t)),some (.int (if 0<(i:Int) then left-g else left)),some (.int (i:Int)),some (.int dr),some (.int m),some (.int g),some (.int h),some (.int l)], ?_,ws++[Wh.mk g l h],_,_,_,_,_,_,_,rfl,by rw[List.length_append,List.length_singleton,hl],fun w hw=> ?_, ?_, ?_⟩
    · skip
      refine(bc (by
       simp(disch:=omega) only[Int.zero_add,hmix,slD,atO,noO,iaD,itD,ay,aO,aN,aP,bn,ba,bg,aT,a7,bH,bJ,bq,bE,bA,bF,aY,bI,aZ,nmG,bB,aX,bd,bp,ifS,nxS,bD,mk,al,ar,am,aV,aW,oD,uD,bf,bh,cD,ah,ae,ak,bj,bi,bx,orB,bo,bz,orD,bC,aA,aB,aE,if_true,if_false,List.set_cons_zero,List.set_cons_succ,List.length_map,List.length_range,List.length_append,List.length_cons,List.length_nil,aw,aq,ai,aj,ao,au,aD,aF,aG,aH,aI,aJ,aK,aL,aM]
       try rfl)).trans ?_
      refine(bc (by
       simp(disch:=omega) only[pY,hm,slD,atO,noO,iaD,itD,ay,aO,aN,aP,bn,ba,bg,aT,a7,bH,bJ,bq,bE,bA,bF,aY,bI,aZ,nmG,bB,aX,bd,bp,ifS,nxS,bD,mk,al,ar,am,aV,aW,oD,uD,bf,bh,cD,ah,ae,ak,bj,bi,bx,orB,bo,bz,orD,bC,aA,aB,aE,if_true,if_false,List.set_cons_zero,List.set_cons_succ,List.length_map,List.length_range,List.length_append,List.length_cons,List.length_nil,aw,aq,ai,aj,ao,au,aD,aF,aG,aH,aI,aJ,aK,aL,aM]
       try rfl)).trans ?_
      refine(bc (by
       simp(disch:=omega) only[pY,hq,gS,hg,slD,atO,noO,iaD,itD,ay,aO,aN,aP,bn,ba,bg,aT,a7,bH,bJ,bq,bE,bA,bF,aY,bI,aZ,nmG,bB,aX,bd,bp,ifS,nxS,bD,mk,al,ar,am,aV,aW,oD,uD,bf,bh,cD,ah,ae,ak,bj,bi,bx,orB,bo,bz,orD,bC,aA,aB,aE,if_true,if_false,List.set_cons_zero,List.set_cons_succ,List.length_map,List.length_range,List.length_append,List.length_cons,List.length_nil,aw,aq,ai,aj,ao,au,aD,aF,aG,aH,aI,aJ,aK,aL,aM]
       try rfl)).trans ?_
      refine(bc (by
       simp(disch:=omega) only[gS,hh,slD,atO,noO,iaD,itD,ay,aO,aN,aP,bn,ba,bg,aT,a7,bH,bJ,bq,bE,bA,bF,aY,bI,aZ,nmG,bB,aX,bd,bp,ifS,nxS,bD,mk,al,ar,am,aV,aW,oD,uD,bf,bh,cD,ah,ae,ak,bj,bi,bx,orB,bo,bz,orD,bC,aA,aB,aE,if_true,if_false,List.set_cons_zero,List.set_cons_succ,List.length_map,List.length_range,List.length_append,List.length_cons,List.length_nil,aw,aq,ai,aj,ao,au,aD,aF,aG,aH,aI,aJ,aK,aL,aM]
       try rfl)).trans ?_
      refine(bc (by
       simp(disch:=omega) only[gS,hlw,slD,atO,noO,iaD,itD,ay,aO,aN,aP,bn,ba,bg,aT,a7,bH,bJ,bq,bE,bA,bF,aY,bI,aZ,nmG,bB,aX,bd,bp,ifS,nxS,bD,mk,al,ar,am,aV,aW,oD,uD,bf,bh,cD,ah,ae,ak,bj,bi,bx,orB,bo,bz,orD,bC,aA,aB,aE,if_true,if_false,List.set_cons_zero,List.set_cons_succ,List.length_map,List.length_range,List.length_append,List.length_cons,List.length_nil,aw,aq,ai,aj,ao,au,aD,aF,aG,aH,aI,aJ,aK,aL,aM]
       try rfl)).trans ?_
      refine(bc (by
       simp(disch:=omega) only[hlen,slD,atO,noO,iaD,itD,ay,aO,aN,aP,bn,ba,bg,aT,a7,bH,bJ,bq,bE,bA,bF,aY,bI,aZ,nmG,bB,aX,bd,bp,ifS,nxS,bD,mk,al,ar,am,aV,aW,oD,uD,bf,bh,cD,ah,ae,ak,bj,bi,bx,orB,bo,bz,orD,bC,aA,aB,aE,if_true,if_false,List.set_cons_zero,List.set_cons_succ,List.length_map,List.length_range,List.length_append,List.length_cons,List.length_nil,aw,aq,ai,aj,ao,au,aD,aF,aG,aH,aI,aJ,aK,aL,aM]
       try rfl)).trans ?_
      by_cases hi0:0<(i:Int)
      · skip
        simp(disch:=omega) only[decide_eq_true hi0,if_pos hi0,List.map_append,List.map_cons,List.map_nil,Wh.t,slD,atO,noO,iaD,itD,ay,aO,aN,aP,bn,ba,bg,aT,a7,bH,bJ,bq,bE,bA,bF,aY,bI,aZ,nmG,bB,aX,bd,bp,ifS,nxS,bD,mk,al,ar,am,aV,aW,oD,uD,bf,bh,cD,ah,ae,ak,bj,bi,bx,orB,bo,bz,orD,bC,aA,aB,aE,if_true,if_false,List.set_cons_zero,List.set_cons_succ,List.length_map,List.length_range,List.length_append,List.length_cons,List.length_nil,aw,aq,ai,aj,ao,au,aD,aF,aG,aH,aI,aJ,aK,aL,aM]
      · skip
        simp(disch:=omega) only[decide_eq_false hi0,if_neg hi0,List.map_append,List.map_cons,List.map_nil,Wh.t,Bool.false_eq_true,slD,atO,noO,iaD,itD,ay,aO,aN,aP,bn,ba,bg,aT,a7,bH,bJ,bq,bE,bA,bF,aY,bI,aZ,nmG,bB,aX,bd,bp,ifS,nxS,bD,mk,al,ar,am,aV,aW,oD,uD,bf,bh,cD,ah,ae,ak,bj,bi,bx,orB,bo,bz,orD,bC,aA,aB,aE,if_true,if_false,List.set_cons_zero,List.set_cons_succ,List.length_map,List.length_range,List.length_append,List.length_cons,List.length_nil,aw,aq,ai,aj,ao,au,aD,aF,aG,aH,aI,aJ,aK,aL,aM]
    · rcases List.mem_append.mp hw with hw|hw
      · exact hok w hw
      · rw[List.mem_singleton.mp hw]
        exact⟨g1.1,l1,h1,h2⟩
    · split<;>omega
    · split<;>omega)
 rw[List.length_map,List.length_range] at hl
 refine⟨ws,hl,hok, ?_⟩
 rw[gh,az]
 refine gl ?_
 show eU [some (.int c),some (.int (n:Int)),none,none,none,none,none,none,none,none]=_
 unfold eU
 have hr:aa iL [.int (n:Int)]=some ((List.range n).map fun(i:Nat)=>D.int (0+(i:Int))):=by
  have:=mC (j:=(n:Int)) (by omega)
  rw[Int.toNat_natCast] at this
  exact this
 refine(bc (by
  simp(disch:=omega) only[hr,slD,atO,noO,iaD,itD,ay,aO,aN,aP,bn,ba,bg,aT,a7,bH,bJ,bq,bE,bA,bF,aY,bI,aZ,nmG,bB,aX,bd,bp,ifS,nxS,bD,mk,al,ar,am,aV,aW,oD,uD,bf,bh,cD,ah,ae,ak,bj,bi,bx,orB,bo,bz,orD,bC,aA,aB,aE,if_true,if_false,List.set_cons_zero,List.set_cons_succ,List.length_map,List.length_range,List.length_append,List.length_cons,List.length_nil,aw,aq,ai,aj,ao,au,aD,aF,aG,aH,aI,aJ,aK,aL,aM]
  try rfl)).trans ?_
 refine(bc (by
  simp(disch:=omega) only[hr,slD,atO,noO,iaD,itD,ay,aO,aN,aP,bn,ba,bg,aT,a7,bH,bJ,bq,bE,bA,bF,aY,bI,aZ,nmG,bB,aX,bd,bp,ifS,nxS,bD,mk,al,ar,am,aV,aW,oD,uD,bf,bh,cD,ah,ae,ak,bj,bi,bx,orB,bo,bz,orD,bC,aA,aB,aE,if_true,if_false,List.set_cons_zero,List.set_cons_succ,List.length_map,List.length_range,List.length_append,List.length_cons,List.length_nil,aw,aq,ai,aj,ao,au,aD,aF,aG,aH,aI,aJ,aK,aL,aM]
  try rfl)).trans ?_
 refine(bc (by
  simp(disch:=omega) only[hr,hloop,slD,atO,noO,iaD,itD,ay,aO,aN,aP,bn,ba,bg,aT,a7,bH,bJ,bq,bE,bA,bF,aY,bI,aZ,nmG,bB,aX,bd,bp,ifS,nxS,bD,mk,al,ar,am,aV,aW,oD,uD,bf,bh,cD,ah,ae,ak,bj,bi,bx,orB,bo,bz,orD,bC,aA,aB,aE,if_true,if_false,List.set_cons_zero,List.set_cons_succ,List.length_map,List.length_range,List.length_append,List.length_cons,List.length_nil,aw,aq,ai,aj,ao,au,aD,aF,aG,aH,aI,aJ,aK,aL,aM]
  try rfl)).trans ?_
 simp(disch:=omega) only[hr,slD,atO,noO,iaD,itD,ay,aO,aN,aP,bn,ba,bg,aT,a7,bH,bJ,bq,bE,bA,bF,aY,bI,aZ,nmG,bB,aX,bd,bp,ifS,nxS,bD,mk,al,ar,am,aV,aW,oD,uD,bf,bh,cD,ah,ae,ak,bj,bi,bx,orB,bo,bz,orD,bC,aA,aB,aE,if_true,if_false,List.set_cons_zero,List.set_cons_succ,List.length_map,List.length_range,List.length_append,List.length_cons,List.length_nil,aw,aq,ai,aj,ao,au,aD,aF,aG,aH,aI,aJ,aK,aL,aM]
def dY(ws:List Wh)(k:Nat):Int:=(((ws.drop 1).take k).map Wh.gap).sum
theorem uf{ws:List Wh}{k:Nat}{w:Wh}(h:ws[k+1]? =some w):dY ws (k+1)=dY ws k+w.gap:=by
 unfold dY
 have e:(ws.drop 1)[k]? =some w:=by rw[List.getElem?_drop,Nat.add_comm];exact h
 rw[List.take_add_one,e,List.map_append,List.sum_append]
 simp
def gT(ws:List Wh)(n:Nat):List Int:=(List.range n).map (dY ws)
theorem lI(ws:List Wh)(n:Nat):(gT ws (n+1)).map D.int=(gT ws n).map D.int++[.int (dY ws n)]:=by
 unfold gT
 rw[List.range_succ,List.map_append,List.map_append]
 rfl
theorem vX{ws:List Wh}{n:Nat}:(gT ws n).length=n:=by unfold gT;rw[List.length_map,List.length_range]
theorem tw{ws:List Wh}{n k:Nat}(h:k<n):atI ((gT ws n).map D.int) (k:Int)=some (.int (dY ws k)):=iH rfl (by
 unfold gT
 rw[List.getElem?_map,List.getElem?_map,List.getElem?_eq_getElem (by simpa using h),List.getElem_range]
 rfl)
theorem zI{ws:List Wh}(h8:ws.length≤8):ia [.lst (ws.map Wh.t)]=some (.lst ((gT ws ws.length).map .int)):=by
 obtain⟨e',hloop,o2,rfl⟩:=dA (g:=nmG 2) (b:=(bE 1 (ifD (trD (vD 1)) (oD (aa cF) (oD (aa ixD) (vD 1) (uD (aa wQ) (cD (.int 1)))) (oD (aa ixD) (vD 2) (cD (.int 0)))) (cD (.int 0))))) (ds:=ws.map Wh.t) (env:=[some (.lst (ws.map Wh.t)),some (.lst []),none])
  (fun i e=>∃o2,e=[some (.lst (ws.map Wh.t)),some (.lst ((gT ws i).map .int)),o2]) ⟨none,rfl⟩ (by
   rintro i d e hd ⟨o2,rfl⟩
   rw[List.getElem?_map] at hd
   obtain⟨w,hw,rfl⟩:=Option.map_eq_some_iff.mp hd
   have hi:=(List.getElem?_eq_some_iff.mp hw).1
   have hx:aa ixD w.t (.int 0)=some (.int w.gap):=by unfold Wh.t;rw[jY];exact ix0
   refine⟨_,rfl,[some (.lst (ws.map Wh.t)),some (.lst ((gT ws (i+1)).map .int)),some w.t], ?_,some w.t,rfl⟩
   cases i with
   |zero=>
    have e0:gT ws 0=[]:=rfl
    have e1:(gT ws (0+1)).map D.int=[.int 0]:=rfl
    have t0:y9 (.lst ([]:List D))=some false:=rfl
    have fl:D.flat (.int 0)=true:=rfl
    rw[e1,e0]
    simp(disch:=omega) only[ifD,trD,t0,fl,List.map_nil,Bool.false_eq_true,List.nil_append,slD,atO,noO,iaD,itD,ay,aO,aN,aP,bn,ba,bg,aT,a7,bH,bJ,bq,bE,bA,bF,aY,bI,aZ,nmG,bB,aX,bd,bp,ifS,nxS,bD,mk,al,ar,am,aV,aW,oD,uD,bf,bh,cD,ah,ae,ak,bj,bi,bx,orB,bo,bz,orD,bC,aA,aB,aE,if_true,if_false,List.set_cons_zero,List.set_cons_succ,List.length_map,List.length_range,List.length_append,List.length_cons,List.length_nil,aw,aq,ai,aj,ao,au,aD,aF,aG,aH,aI,aJ,aK,aL,aM]
    simp
   |succ k=>
    have hlen:(gT ws (k+1)).length<1000000:=by rw[vX];omega
    have t0:y9 (.lst ((gT ws (k+1)).map D.int))=some true:=by rw[lI];show some (!((gT ws k).map D.int++[D.int (dY ws k)]).isEmpty)=_;simp
    have hl:atI ((gT ws (k+1)).map D.int) (-1)=some (.int (dY ws k)):=by rw[lI];exact qx
    have fl:D.flat (.int (dY ws k+w.gap))=true:=rfl
    rw[lI ws (k+1),uf hw]
    simp(disch:=omega) only[ifD,trD,t0,fl,gS,hl,hx,hlen,slD,atO,noO,iaD,itD,ay,aO,aN,aP,bn,ba,bg,aT,a7,bH,bJ,bq,bE,bA,bF,aY,bI,aZ,nmG,bB,aX,bd,bp,ifS,nxS,bD,mk,al,ar,am,aV,aW,oD,uD,bf,bh,cD,ah,ae,ak,bj,bi,bx,orB,bo,bz,orD,bC,aA,aB,aE,if_true,if_false,List.set_cons_zero,List.set_cons_succ,List.length_map,List.length_range,List.length_append,List.length_cons,List.length_nil,aw,aq,ai,aj,ao,au,aD,aF,aG,aH,aI,aJ,aK,aL,aM]
    )
 rw[List.length_map] at hloop
 rw[ia,az]
 refine gl ?_
 show e7 [some (.lst (ws.map Wh.t)),none,none]=_
 unfold e7
 refine(bc (by
  simp(disch:=omega) only[cN,slD,atO,noO,iaD,itD,ay,aO,aN,aP,bn,ba,bg,aT,a7,bH,bJ,bq,bE,bA,bF,aY,bI,aZ,nmG,bB,aX,bd,bp,ifS,nxS,bD,mk,al,ar,am,aV,aW,oD,uD,bf,bh,cD,ah,ae,ak,bj,bi,bx,orB,bo,bz,orD,bC,aA,aB,aE,if_true,if_false,List.set_cons_zero,List.set_cons_succ,List.length_map,List.length_range,List.length_append,List.length_cons,List.length_nil,aw,aq,ai,aj,ao,au,aD,aF,aG,aH,aI,aJ,aK,aL,aM]
  try rfl)).trans ?_
 refine(bc (by
  simp(disch:=omega) only[cN,hloop,slD,atO,noO,iaD,itD,ay,aO,aN,aP,bn,ba,bg,aT,a7,bH,bJ,bq,bE,bA,bF,aY,bI,aZ,nmG,bB,aX,bd,bp,ifS,nxS,bD,mk,al,ar,am,aV,aW,oD,uD,bf,bh,cD,ah,ae,ak,bj,bi,bx,orB,bo,bz,orD,bC,aA,aB,aE,if_true,if_false,List.set_cons_zero,List.set_cons_succ,List.length_map,List.length_range,List.length_append,List.length_cons,List.length_nil,aw,aq,ai,aj,ao,au,aD,aF,aG,aH,aI,aJ,aK,aL,aM]
  try rfl)).trans ?_
 simp(disch:=omega) only[cN,slD,atO,noO,iaD,itD,ay,aO,aN,aP,bn,ba,bg,aT,a7,bH,bJ,bq,bE,bA,bF,aY,bI,aZ,nmG,bB,aX,bd,bp,ifS,nxS,bD,mk,al,ar,am,aV,aW,oD,uD,bf,bh,cD,ah,ae,ak,bj,bi,bx,orB,bo,bz,orD,bC,aA,aB,aE,if_true,if_false,List.set_cons_zero,List.set_cons_succ,List.length_map,List.length_range,List.length_append,List.length_cons,List.length_nil,aw,aq,ai,aj,ao,au,aD,aF,aG,aH,aI,aJ,aK,aL,aM]
theorem nA{ws:List Wh}{env caps:PD.Env}{i:Int}{f:Wh→Int}(hf:∀w:Wh,aa ixD w.t (.int i)=some (.int (f w))):jv dR (oD (aa ixD) (vD 0) (cD (.int i))) caps (ws.map Wh.t)=some ((ws.map f).map .int):=by
 rw[d6 (f:=fun w=>D.int (f w)),List.map_map]
 · rfl
 · intro w _
   refine⟨rfl, ?_⟩
   simp only[oD,bf,cD,aA,hf]
theorem wh0{w:Wh}:aa ixD w.t (.int 0)=some (.int w.gap):=by unfold Wh.t;rw[jY];exact ix0
theorem wh2{w:Wh}:aa ixD w.t (.int 2)=some (.int w.high):=by unfold Wh.t;rw[jY];exact gM (n:=2) rfl
theorem vY{off f:Nat→Int}{W:Int}{n i:Nat}(hi:i≤n):gt f (win off W n i)=(((List.range (n-i)).filter fun j=>decide (off (i+j)-off i<W)).map fun j=>f (i+j)).sum:=by
 obtain⟨m,rfl⟩:∃m,n=i+m:=⟨n-i,by omega⟩
 unfold gt win
 rw[List.range_add,List.filter_append,Nat.add_sub_cancel_left]
 have e1:(List.range i).filter (nO off W i)=[]:=by
  rw[List.filter_eq_nil_iff]
  intro k hk
  have:k<i:=List.mem_range.mp hk
  unfold nO
  rw[decide_eq_false (by omega)]
  exact Bool.false_ne_true
 rw[e1,List.nil_append,List.filter_map,List.map_map]
 have e2:(nO off W i∘fun x=>i+x)=fun j=>decide (off (i+j)-off i<W):=by
  funext j
  show nO off W i (i+j)=_
  unfold nO
  rw[decide_eq_true (by omega),Bool.true_and]
 rw[e2]
 rfl
theorem xz{f off:Nat→Int}{n:Nat}{W:Int}(hn:0<n)(h8:n≤8):gk [.lst (((List.range n).map f).map .int), .lst (((List.range n).map off).map .int), .int W]=some (.int (mxL (gt f (win off W n 0)) ((List.range (n-1)).map fun i=>gt f (win off W n (i+1))))):=by
 have atf:∀(g:Nat→Int) (k:Nat),k<n→atI (((List.range n).map g).map D.int) (k:Int)=some (.int (g k)):=fun g k hk=>iH rfl (by
  rw[List.getElem?_map,List.getElem?_map,List.getElem?_eq_getElem (by simpa using hk),List.getElem_range]
  rfl)
 obtain⟨e',hloop,o4,o5,o6,rfl⟩:=dA (g:=bB [4,5]) (b:=lB5) (ds:=hU (((List.range n).map off).map .int)) (env:=[some (.lst (((List.range n).map f).map .int)),some (.lst (((List.range n).map off).map .int)),some (.int W),some (.lst []),none,none,none])
  (fun i e=>∃o4 o5 o6,e=[some (.lst (((List.range n).map f).map .int)),some (.lst (((List.range n).map off).map .int)),some (.int W),some (.lst (((List.range i).map fun i=>gt f (win off W n i)).map .int)),o4,o5,o6]) ⟨none,none,none,rfl⟩ (by
   rintro i d e hd ⟨o4,o5,o6,rfl⟩
   unfold hU at hd
   rw[List.getElem?_mapIdx] at hd
   obtain⟨x,hx,rfl⟩:=Option.map_eq_some_iff.mp hd
   have hi:i<n:=by
    have:=(List.getElem?_eq_some_iff.mp hx).1
    simpa using this
   rw[List.getElem?_map,List.getElem?_map,List.getElem?_eq_getElem (by simpa using hi),List.getElem_range] at hx
   cases hx
   refine⟨_,rfl, ?_⟩
   have hr:aa ko [.int (i:Int), .int (n:Int)]=some ((List.range (n-i)).map fun(k:Nat)=>D.int ((i:Int)+(k:Int))):=by
    have:=tu (i:=(i:Int)) (j:=(n:Int)) (by omega)
    rw[show ((n:Int)-(i:Int)).toNat=n-i from by omega] at this
    exact this
   have hln:aa fW [.lst (((List.range n).map off).map D.int)]=some (.int (n:Int)):=by rw[aN,List.length_map,List.length_map,List.length_range]
   have hcomp:bX (iaD (aa ko) (ae (vD 4) (ae (ah (aa fW) (ae (vD 1) ak)) ak))) (bD (oD (aa ltD) (oD (aa nJ) (oD (aa ixD) (vD 2) (vD 0)) (vD 1)) (vD 4))) (oD (aa ixD) (vD 3) (vD 0)) [5,1,0,2] [some (.lst (((List.range n).map f).map .int)),some (.lst (((List.range n).map off).map .int)),some (.int W),none,some (.int (i:Int)),some (.int (off i)),o6]=some (.lst ((((List.range (n-i)).filter fun j=>decide (off (i+j)-off i<W)).map fun j=>f (i+j)).map .int)):=by
    unfold bX
    simp only[iaD,ae,ak,ah,bf,bh,aA,hln,hr]
    rw[if_pos (by rw[List.length_map,List.length_range];omega),kG (p:=fun j=>decide (off (i+j)-off i<W)) (f:=fun j=>D.int (f (i+j)))]
    · rw[List.map_map]
      rfl
    · intro j hj
      have hj:i+j<n:=by have:=List.mem_range.mp hj;omega
      have a1:=atf off (i+j) hj
      have a2:=atf f (i+j) hj
      rw[Int.natCast_add] at a1 a2
      show (bD (oD (aa ltD) (oD (aa nJ) (oD (aa ixD) (vD 2) (vD 0)) (vD 1)) (vD 4)) [some (.int ((i:Int)+(j:Int))),some (.int (off i)),some (.lst (((List.range n).map off).map .int)),some (.lst (((List.range n).map f).map .int)),some (.int W)]=_)∧(_→oD (aa ixD) (vD 3) (vD 0) [some (.int ((i:Int)+(j:Int))),some (.int (off i)),some (.lst (((List.range n).map off).map .int)),some (.lst (((List.range n).map f).map .int)),some (.int W)]=_)
      refine⟨?_,fun _=> ?_⟩
      · simp only[bD,oD,bf,bh,aA,gS,a1,au,aD]
      · simp only[oD,bf,bh,aA,gS,a2]
   have hlen:i<1000000:=by omega
   refine⟨[some (.lst (((List.range n).map f).map .int)),some (.lst (((List.range n).map off).map .int)),some (.int W),some (.lst (((List.range (i+1)).map fun i=>gt f (win off W n i)).map .int)),some (.int (i:Int)),some (.int (off i)),some (.lst ((((List.range (n-i)).filter fun j=>decide (off (i+j)-off i<W)).map fun j=>f (i+j)).map .int))], ?_,_,_,_,rfl⟩
   rw[List.range_succ,List.map_append,List.map_append,List.map_cons,List.map_nil,List.map_cons,List.map_nil,vY (i:=i) (by omega)]
   have hcomp':bX _ _ _ _ _=_:=hcomp
   refine(bc (by
    simp(disch:=omega) only[hcomp',slD,atO,noO,iaD,itD,ay,aO,aN,aP,bn,ba,bg,aT,a7,bH,bJ,bq,bE,bA,bF,aY,bI,aZ,nmG,bB,aX,bd,bp,ifS,nxS,bD,mk,al,ar,am,aV,aW,oD,uD,bf,bh,cD,ah,ae,ak,bj,bi,bx,orB,bo,bz,orD,bC,aA,aB,aE,if_true,if_false,List.set_cons_zero,List.set_cons_succ,List.length_map,List.length_range,List.length_append,List.length_cons,List.length_nil,aw,aq,ai,aj,ao,au,aD,aF,aG,aH,aI,aJ,aK,aL,aM]
    try rfl)).trans ?_
   simp(disch:=omega) only[vW,hlen,slD,atO,noO,iaD,itD,ay,aO,aN,aP,bn,ba,bg,aT,a7,bH,bJ,bq,bE,bA,bF,aY,bI,aZ,nmG,bB,aX,bd,bp,ifS,nxS,bD,mk,al,ar,am,aV,aW,oD,uD,bf,bh,cD,ah,ae,ak,bj,bi,bx,orB,bo,bz,orD,bC,aA,aB,aE,if_true,if_false,List.set_cons_zero,List.set_cons_succ,List.length_map,List.length_range,List.length_append,List.length_cons,List.length_nil,aw,aq,ai,aj,ao,au,aD,aF,aG,aH,aI,aJ,aK,aL,aM]
   )
 have hel:(hU (((List.range n).map off).map D.int)).length=n:=by unfold hU;rw[List.length_mapIdx,List.length_map,List.length_map,List.length_range]
 rw[hel] at hloop
 rw[gk,az]
 refine dO ?_
 show dN [some (.lst (((List.range n).map f).map .int)),some (.lst (((List.range n).map off).map .int)),some (.int W),none,none,none,none]=_
 unfold dN
 have hmx:aa oA [.lst (((List.range n).map fun i=>gt f (win off W n i)).map .int)]=some (.int (mxL (gt f (win off W n 0)) ((List.range (n-1)).map fun i=>gt f (win off W n (i+1))))):=by
  obtain⟨m,rfl⟩:∃m,n=m+1:=⟨n-1,by omega⟩
  rw[az]
  show (inS _).bind _=_
  rw[my,aA,List.range_succ_eq_map,List.map_cons,List.map_map]
  rfl
 refine(bc (by
  simp(disch:=omega) only[hloop,slD,atO,noO,iaD,itD,ay,aO,aN,aP,bn,ba,bg,aT,a7,bH,bJ,bq,bE,bA,bF,aY,bI,aZ,nmG,bB,aX,bd,bp,ifS,nxS,bD,mk,al,ar,am,aV,aW,oD,uD,bf,bh,cD,ah,ae,ak,bj,bi,bx,orB,bo,bz,orD,bC,aA,aB,aE,if_true,if_false,List.set_cons_zero,List.set_cons_succ,List.length_map,List.length_range,List.length_append,List.length_cons,List.length_nil,aw,aq,ai,aj,ao,au,aD,aF,aG,aH,aI,aJ,aK,aL,aM]
  try rfl)).trans ?_
 refine(bc (by
  simp(disch:=omega) only[hloop,slD,atO,noO,iaD,itD,ay,aO,aN,aP,bn,ba,bg,aT,a7,bH,bJ,bq,bE,bA,bF,aY,bI,aZ,nmG,bB,aX,bd,bp,ifS,nxS,bD,mk,al,ar,am,aV,aW,oD,uD,bf,bh,cD,ah,ae,ak,bj,bi,bx,orB,bo,bz,orD,bC,aA,aB,aE,if_true,if_false,List.set_cons_zero,List.set_cons_succ,List.length_map,List.length_range,List.length_append,List.length_cons,List.length_nil,aw,aq,ai,aj,ao,au,aD,aF,aG,aH,aI,aJ,aK,aL,aM]
  try rfl)).trans ?_
 simp(disch:=omega) only[hmx,slD,atO,noO,iaD,itD,ay,aO,aN,aP,bn,ba,bg,aT,a7,bH,bJ,bq,bE,bA,bF,aY,bI,aZ,nmG,bB,aX,bd,bp,ifS,nxS,bD,mk,al,ar,am,aV,aW,oD,uD,bf,bh,cD,ah,ae,ak,bj,bi,bx,orB,bo,bz,orD,bC,aA,aB,aE,if_true,if_false,List.set_cons_zero,List.set_cons_succ,List.length_map,List.length_range,List.length_append,List.length_cons,List.length_nil,aw,aq,ai,aj,ao,au,aD,aF,aG,aH,aI,aJ,aK,aL,aM]
def hiN(ws:List Wh)(k:Nat):Int:=((ws[k]?).map Wh.high).getD 0
theorem ug{ws:List Wh}{f:Wh→Int}:(List.range ws.length).map (fun k=>((ws[k]?).map f).getD 0)=ws.map f:=by
 refine List.ext_getElem? fun i=> ?_
 rw[List.getElem?_map,List.getElem?_map]
 by_cases h:i<ws.length
 · rw[List.getElem?_eq_getElem (by simpa using h),List.getElem_range]
   show some ((Option.map f ws[i]?).getD 0)=_
   rw[List.getElem?_eq_getElem h]
   rfl
 · rw[List.getElem?_eq_none (by simpa using h),List.getElem?_eq_none (by omega)]
   rfl
def jW(ws:List Wh)(W:Int):Int:=mxL (gt (hiN ws) (win (dY ws) W ws.length 0)) ((List.range (ws.length-1)).map fun i=>gt (hiN ws) (win (dY ws) W ws.length (i+1)))
theorem vZ{ws:List Wh}{W:Int}(hn:0<ws.length)(h8:ws.length≤8):iF [.lst (ws.map Wh.t), .int W]=some (.int (jW ws W)):=by
 have hg:=xz (f:=hiN ws) (off:=dY ws) (W:=W) hn h8
 have e1:(List.range ws.length).map (hiN ws)=ws.map Wh.high:=ug
 rw[e1] at hg
 rw[iF,az]
 refine dO ?_
 show gG [some (.lst (ws.map Wh.t)),some (.int W)]=_
 unfold gG
 have ho:=zI h8
 have hc:bX (itD (vD 0)) dR (oD (aa ixD) (vD 0) (cD (.int 2))) [] [some (.lst (ws.map Wh.t)),some (.int W)]=some (.lst ((ws.map Wh.high).map .int)):=by
  unfold bX
  simp only[itD,bf,aA,cN]
  rw[if_pos (by rw[List.length_map];omega),nA (env:=[]) fun w=>wh2]
  rfl
 simp(disch:=omega) only[hc,ho,slD,atO,noO,iaD,itD,ay,aO,aN,aP,bn,ba,bg,aT,a7,bH,bJ,bq,bE,bA,bF,aY,bI,aZ,nmG,bB,aX,bd,bp,ifS,nxS,bD,mk,al,ar,am,aV,aW,oD,uD,bf,bh,cD,ah,ae,ak,bj,bi,bx,orB,bo,bz,orD,bC,aA,aB,aE,if_true,if_false,List.set_cons_zero,List.set_cons_succ,List.length_map,List.length_range,List.length_append,List.length_cons,List.length_nil,aw,aq,ai,aj,ao,au,aD,aF,aG,aH,aI,aJ,aK,aL,aM]
 unfold gT
 rw[hg]
 rfl
def jt(ws:List Wh)(b:Br):Bool:=decide (jW ws b.length≤b.bears)&&decide (jW ws b.wide≤b.most)
theorem v0{ws:List Wh}{b:Br}(hn:0<ws.length)(h8:ws.length≤8):fH [b.o, .lst (ws.map Wh.t)]=some (.bl (jt ws b)):=by
 have h1:=vZ (W:=b.length) hn h8
 have h2:=vZ (W:=b.wide) hn h8
 have g1:aa (bU .length) b.o=some (.int b.length):=iI rfl
 have g2:aa (bU .bears) b.o=some (.int b.bears):=iI rfl
 have g3:aa (bU .wide) b.o=some (.int b.wide):=iI rfl
 have g4:aa (bU .most) b.o=some (.int b.most):=iI rfl
 rw[fH,az]
 refine dO ?_
 show lA [some b.o,some (.lst (ws.map Wh.t))]=_
 unfold lA jt
 cases e:decide (jW ws b.length≤b.bears) with
 |true=>
  simp(disch:=omega) only[g1,g2,g3,g4,h1,h2,e,Bool.true_and,slD,atO,noO,iaD,itD,ay,aO,aN,aP,bn,ba,bg,aT,a7,bH,bJ,bq,bE,bA,bF,aY,bI,aZ,nmG,bB,aX,bd,bp,ifS,nxS,bD,mk,al,ar,am,aV,aW,oD,uD,bf,bh,cD,ah,ae,ak,bj,bi,bx,orB,bo,bz,orD,bC,aA,aB,aE,if_true,if_false,List.set_cons_zero,List.set_cons_succ,List.length_map,List.length_range,List.length_append,List.length_cons,List.length_nil,aw,aq,ai,aj,ao,au,aD,aF,aG,aH,aI,aJ,aK,aL,aM]
 |false=>
  simp(disch:=omega) only[g1,g2,g3,g4,h1,h2,e,Bool.false_and,Bool.false_eq_true,slD,atO,noO,iaD,itD,ay,aO,aN,aP,bn,ba,bg,aT,a7,bH,bJ,bq,bE,bA,bF,aY,bI,aZ,nmG,bB,aX,bd,bp,ifS,nxS,bD,mk,al,ar,am,aV,aW,oD,uD,bf,bh,cD,ah,ae,ak,bj,bi,bx,orB,bo,bz,orD,bC,aA,aB,aE,if_true,if_false,List.set_cons_zero,List.set_cons_succ,List.length_map,List.length_range,List.length_append,List.length_cons,List.length_nil,aw,aq,ai,aj,ao,au,aD,aF,aG,aH,aI,aJ,aK,aL,aM]
theorem AM{ws:List Wh}(h8:ws.length≤8):h7 [.lst (ws.map Wh.t)]=some (.lst ((gT ws ws.length).map .int)):=by
 rw[h7,az]
 refine gl ?_
 show eY [some (.lst (ws.map Wh.t))]=_
 unfold eY
 have hln:aa fW [.lst (ws.map Wh.t)]=some (.int (ws.length:Int)):=by rw[aN,List.length_map]
 have hrn:aa iL [.int (ws.length:Int)]=some ((List.range ws.length).map fun(i:Nat)=>D.int (0+(i:Int))):=by
  have:=mC (j:=(ws.length:Int)) (by omega)
  rw[Int.toNat_natCast] at this
  exact this
 have hcomp:bX (iaD (aa iL) (ae (ah (aa fW) (ae (vD 0) ak)) ak)) dR (ah (aa qD) (ae (bX (itD (slD (aa ji) (vD 1) (atO (cD (.int 1))) (atO (oD (aa cF) (vD 0) (cD (.int 1)))))) dR (oD (aa ixD) (vD 0) (cD (.int 0))) []) ak)) [0] [some (.lst (ws.map Wh.t))]=some (.lst ((gT ws ws.length).map .int)):=by
  unfold bX
  simp only[iaD,ae,ak,ah,bf,aA,hln,hrn]
  rw[if_pos (by rw[List.length_map,List.length_range];omega),d6 (f:=fun k:Nat=>D.int (dY ws k))]
  · show some (D.lst _)=_
    unfold gT
    rw[List.map_map]
    rfl
  · intro k hk
    have hk:k<ws.length:=List.mem_range.mp hk
    refine⟨rfl, ?_⟩
    have hcut:aa ji (.lst (ws.map Wh.t)) (some 1) (some ((k:Int)+1))=some (.lst (((ws.drop 1).take k).map Wh.t)):=by
     rw[az]
     show some (D.lst (kZ _ (some ((1:Nat):Int)) (some ((k+1:Nat):Int))))=_
     unfold kZ
     rw[HT.sIx_nat,HT.sIx_nat,List.length_map,Nat.min_eq_left (by omega),Nat.min_eq_left (by omega),Nat.add_sub_cancel,List.map_take,List.map_drop]
    show ah (aa qD) (ae (bX (itD (slD (aa ji) (vD 1) (atO (cD (.int 1))) (atO (oD (aa cF) (vD 0) (cD (.int 1)))))) dR (oD (aa ixD) (vD 0) (cD (.int 0))) []) ak) [some (.int (0+(k:Int))),some (.lst (ws.map Wh.t))]=_
    have hc2:bX (itD (slD (aa ji) (vD 1) (atO (cD (.int 1))) (atO (oD (aa cF) (vD 0) (cD (.int 1)))))) dR (oD (aa ixD) (vD 0) (cD (.int 0))) [] [some (.int (0+(k:Int))),some (.lst (ws.map Wh.t))]=some (.lst ((((ws.drop 1).take k).map Wh.gap).map .int)):=by
     unfold bX
     simp only[itD,slD,atO,oD,bf,bh,cD,aA,ao,Int.zero_add,hcut,cN]
     rw[if_pos (by rw[List.length_map,List.length_take,List.length_drop];omega),nA (env:=[]) fun w=>wh0]
     rfl
    simp only[ah,ae,ak,hc2,aA,vW]
    rfl
 unfold bd
 rw[hcomp]
 rfl
theorem v3{a:Int}{r:List Int}(h:0≤a):mxL 0 (a::r)=mxL a r:=by
 show mxL (if a>0 then a else 0) r=_
 congr 1
 split<;>omega
theorem v4(b:Int)(r:List Int)(x:Int):mxL b (r++[x])=if x>mxL b r then x else mxL b r:=by
 induction r generalizing b with
 |nil=>rfl
 |cons y r ih=>exact ih _
theorem tz{ws:List Wh}{W:Int}(ok:∀w∈ws,w.Ok)(hn:0<ws.length)(h8:ws.length≤8):gQ [.lst (ws.map Wh.t), .int W, .int 2]=some (.int (jW ws W)):=by
 have hp:=AM h8
 have nn:∀k,0≤hiN ws k:=fun k=>by
  unfold hiN
  cases e:ws[k]? with
  |none=>exact Int.le_refl _
  |some w=>exact(ok w (List.mem_of_getElem? e)).h
 have hln:aa fW [.lst (ws.map Wh.t)]=some (.int (ws.length:Int)):=by rw[aN,List.length_map]
 have hrn:aa iL [.int (ws.length:Int)]=some ((List.range ws.length).map fun(i:Nat)=>D.int (0+(i:Int))):=by
  have:=mC (j:=(ws.length:Int)) (by omega)
  rw[Int.toNat_natCast] at this
  exact this
 obtain⟨e',hloop,o5,o6,rfl⟩:=dA (g:=nmG 5) (b:=lB4) (ds:=(List.range ws.length).map fun(i:Nat)=>D.int (0+(i:Int))) (env:=[some (.lst (ws.map Wh.t)),some (.int W),some (.int 2),some (.lst ((gT ws ws.length).map .int)),some (.int 0),none,none])
  (fun i e=>∃o5 o6,e=[some (.lst (ws.map Wh.t)),some (.int W),some (.int 2),some (.lst ((gT ws ws.length).map .int)),some (.int (mxL 0 ((List.range i).map fun i=>gt (hiN ws) (win (dY ws) W ws.length i)))),o5,o6]) ⟨none,none,rfl⟩ (by
   rintro i d e hd ⟨o5,o6,rfl⟩
   rw[List.getElem?_map] at hd
   obtain⟨k,hk,rfl⟩:=Option.map_eq_some_iff.mp hd
   obtain⟨hk8,hk⟩:=List.getElem?_eq_some_iff.mp hk
   rw[List.getElem_range] at hk
   subst hk
   have hi:i<ws.length:=by simpa using hk8
   refine⟨_,rfl, ?_⟩
   have hr:aa ko [.int (i:Int), .int (ws.length:Int)]=some ((List.range (ws.length-i)).map fun(k:Nat)=>D.int ((i:Int)+(k:Int))):=by
    have:=tu (i:=(i:Int)) (j:=(ws.length:Int)) (by omega)
    rw[show ((ws.length:Int)-(i:Int)).toNat=ws.length-i from by omega] at this
    exact this
   have hcomp:∀o4:Option D,bX (iaD (aa ko) (ae (vD 5) (ae (ah (aa fW) (ae (vD 0) ak)) ak))) (bD (oD (aa ltD) (oD (aa ixD) (vD 2) (vD 0)) (oD (aa cF) (oD (aa ixD) (vD 2) (vD 1)) (vD 5)))) (oD (aa ixD) (oD (aa ixD) (vD 3) (vD 0)) (vD 4)) [5,3,0,2,1] [some (.lst (ws.map Wh.t)),some (.int W),some (.int 2),some (.lst ((gT ws ws.length).map .int)),o4,some (.int (i:Int)),o6]=some (.lst ((((List.range (ws.length-i)).filter fun j=>decide (dY ws (i+j)-dY ws i<W)).map fun j=>hiN ws (i+j)).map .int)):=fun o4=>by
    unfold bX
    simp only[iaD,ae,ak,ah,bf,bh,aA,hln,hr]
    rw[if_pos (by rw[List.length_map,List.length_range];omega),kG (p:=fun j=>decide (dY ws (i+j)-dY ws i<W)) (f:=fun j=>D.int (hiN ws (i+j)))]
    · rw[List.map_map]
      rfl
    · intro j hj
      have hj:i+j<ws.length:=by have:=List.mem_range.mp hj;omega
      have a1:=tw (ws:=ws) hj
      have a2:=tw (ws:=ws) hi
      have a3:atI (ws.map Wh.t) ((i+j:Nat):Int)=some (ws[i+j]).t:=iH rfl (by rw[List.getElem?_map,List.getElem?_eq_getElem hj];rfl)
      rw[Int.natCast_add] at a1 a3
      show (bD (oD (aa ltD) (oD (aa ixD) (vD 2) (vD 0)) (oD (aa cF) (oD (aa ixD) (vD 2) (vD 1)) (vD 5))) [some (.int ((i:Int)+(j:Int))),some (.int (i:Int)),some (.lst ((gT ws ws.length).map .int)),some (.lst (ws.map Wh.t)),some (.int 2),some (.int W)]=_)∧(_→oD (aa ixD) (oD (aa ixD) (vD 3) (vD 0)) (vD 4) [some (.int ((i:Int)+(j:Int))),some (.int (i:Int)),some (.lst ((gT ws ws.length).map .int)),some (.lst (ws.map Wh.t)),some (.int 2),some (.int W)]=_)
      refine⟨?_,fun _=> ?_⟩
      · simp only[bD,oD,bf,bh,aA,gS,a1,a2,ao,aD]
        congr 1
        exact decide_eq_decide.mpr ⟨fun h=>by omega,fun h=>by omega⟩
      · simp only[oD,bf,bh,aA,gS,a3,wh2]
        unfold hiN
        rw[List.getElem?_eq_getElem hj]
        rfl
   refine⟨[some (.lst (ws.map Wh.t)),some (.int W),some (.int 2),some (.lst ((gT ws ws.length).map .int)),some (.int (mxL 0 ((List.range (i+1)).map fun i=>gt (hiN ws) (win (dY ws) W ws.length i)))),some (.int (i:Int)),some (.lst ((((List.range (ws.length-i)).filter fun j=>decide (dY ws (i+j)-dY ws i<W)).map fun j=>hiN ws (i+j)).map .int))], ?_,_,_,rfl⟩
   rw[List.range_succ,List.map_append,List.map_cons,List.map_nil,v4,vY (i:=i) (by omega)]
   have hcomp':=hcomp (some (.int (mxL 0 ((List.range i).map fun i=>gt (hiN ws) (win (dY ws) W ws.length i)))))
   have hc:bX _ _ _ _ _=_:=hcomp'
   refine(bc (by
    simp(disch:=omega) only[Int.zero_add,hc,slD,atO,noO,iaD,itD,ay,aO,aN,aP,bn,ba,bg,aT,a7,bH,bJ,bq,bE,bA,bF,aY,bI,aZ,nmG,bB,aX,bd,bp,ifS,nxS,bD,mk,al,ar,am,aV,aW,oD,uD,bf,bh,cD,ah,ae,ak,bj,bi,bx,orB,bo,bz,orD,bC,aA,aB,aE,if_true,if_false,List.set_cons_zero,List.set_cons_succ,List.length_map,List.length_range,List.length_append,List.length_cons,List.length_nil,aw,aq,ai,aj,ao,au,aD,aF,aG,aH,aI,aJ,aK,aL,aM]
    try rfl)).trans ?_
   simp(disch:=omega) only[vW,kK,slD,atO,noO,iaD,itD,ay,aO,aN,aP,bn,ba,bg,aT,a7,bH,bJ,bq,bE,bA,bF,aY,bI,aZ,nmG,bB,aX,bd,bp,ifS,nxS,bD,mk,al,ar,am,aV,aW,oD,uD,bf,bh,cD,ah,ae,ak,bj,bi,bx,orB,bo,bz,orD,bC,aA,aB,aE,if_true,if_false,List.set_cons_zero,List.set_cons_succ,List.length_map,List.length_range,List.length_append,List.length_cons,List.length_nil,aw,aq,ai,aj,ao,au,aD,aF,aG,aH,aI,aJ,aK,aL,aM]
   )
 rw[List.length_map,List.length_range] at hloop
 have hm:mxL 0 ((List.range ws.length).map fun i=>gt (hiN ws) (win (dY ws) W ws.length i))=jW ws W:=by
  unfold jW
  obtain⟨m,hm⟩:∃m,ws.length=m+1:=⟨ws.length-1,by omega⟩
  generalize ws.length=n at hm
  subst hm
  rw[List.range_succ_eq_map,List.map_cons,v3 (p0 nn _),List.map_map]
  rfl
 rw[hm] at hloop
 rw[gQ,az]
 refine dO ?_
 show fS [some (.lst (ws.map Wh.t)),some (.int W),some (.int 2),none,none,none,none]=_
 unfold fS
 refine(bc (by
  simp(disch:=omega) only[hp,slD,atO,noO,iaD,itD,ay,aO,aN,aP,bn,ba,bg,aT,a7,bH,bJ,bq,bE,bA,bF,aY,bI,aZ,nmG,bB,aX,bd,bp,ifS,nxS,bD,mk,al,ar,am,aV,aW,oD,uD,bf,bh,cD,ah,ae,ak,bj,bi,bx,orB,bo,bz,orD,bC,aA,aB,aE,if_true,if_false,List.set_cons_zero,List.set_cons_succ,List.length_map,List.length_range,List.length_append,List.length_cons,List.length_nil,aw,aq,ai,aj,ao,au,aD,aF,aG,aH,aI,aJ,aK,aL,aM]
  try rfl)).trans ?_
 refine(bc (by
  simp(disch:=omega) only[hp,slD,atO,noO,iaD,itD,ay,aO,aN,aP,bn,ba,bg,aT,a7,bH,bJ,bq,bE,bA,bF,aY,bI,aZ,nmG,bB,aX,bd,bp,ifS,nxS,bD,mk,al,ar,am,aV,aW,oD,uD,bf,bh,cD,ah,ae,ak,bj,bi,bx,orB,bo,bz,orD,bC,aA,aB,aE,if_true,if_false,List.set_cons_zero,List.set_cons_succ,List.length_map,List.length_range,List.length_append,List.length_cons,List.length_nil,aw,aq,ai,aj,ao,au,aD,aF,aG,aH,aI,aJ,aK,aL,aM]
  try rfl)).trans ?_
 refine(bc (by
  simp(disch:=omega) only[hln,hrn,hloop,slD,atO,noO,iaD,itD,ay,aO,aN,aP,bn,ba,bg,aT,a7,bH,bJ,bq,bE,bA,bF,aY,bI,aZ,nmG,bB,aX,bd,bp,ifS,nxS,bD,mk,al,ar,am,aV,aW,oD,uD,bf,bh,cD,ah,ae,ak,bj,bi,bx,orB,bo,bz,orD,bC,aA,aB,aE,if_true,if_false,List.set_cons_zero,List.set_cons_succ,List.length_map,List.length_range,List.length_append,List.length_cons,List.length_nil,aw,aq,ai,aj,ao,au,aD,aF,aG,aH,aI,aJ,aK,aL,aM]
  try rfl)).trans ?_
 simp(disch:=omega) only[hp,slD,atO,noO,iaD,itD,ay,aO,aN,aP,bn,ba,bg,aT,a7,bH,bJ,bq,bE,bA,bF,aY,bI,aZ,nmG,bB,aX,bd,bp,ifS,nxS,bD,mk,al,ar,am,aV,aW,oD,uD,bf,bh,cD,ah,ae,ak,bj,bi,bx,orB,bo,bz,orD,bC,aA,aB,aE,if_true,if_false,List.set_cons_zero,List.set_cons_succ,List.length_map,List.length_range,List.length_append,List.length_cons,List.length_nil,aw,aq,ai,aj,ao,au,aD,aF,aG,aH,aI,aJ,aK,aL,aM]
theorem uh{ws:List Wh}{gs:List (Br×Int)}(hn:0<ws.length)(h8:ws.length≤8)(hg:gs.length<1000000):fU [.lst (gs.map fun x=>x.1.o), .lst (ws.map Wh.t)]=some (.bl (gs.all fun x=>jt ws x.1)):=by
 rw[fU,az]
 refine dO ?_
 show fT [some (.lst (gs.map fun x=>x.1.o)),some (.lst (ws.map Wh.t))]=_
 unfold fT
 have hcomp:bX (itD (vD 0)) dR (ah fH (ae (vD 0) (ae (vD 1) ak))) [1] [some (.lst (gs.map fun x=>x.1.o)),some (.lst (ws.map Wh.t))]=some (.lst ((gs.map fun x=>jt ws x.1).map .bl)):=by
  unfold bX
  simp only[itD,bf,aA,cN]
  rw[if_pos (by rw[List.length_map];exact hg),d6 (f:=fun x:Br×Int=>D.bl (jt ws x.1)),List.map_map]
  · rfl
  · intro x _
    refine⟨rfl, ?_⟩
    show ah fH (ae (vD 0) (ae (vD 1) ak)) [some x.1.o,some (.lst (ws.map Wh.t))]=_
    simp only[ah,ae,ak,bf,bh,aA,v0 hn h8]
 have hall:aa nK [.lst ((gs.map fun x=>jt ws x.1).map .bl)]=some (.bl (gs.all fun x=>jt ws x.1)):=by
  rw[az]
  show (blS _).map _=_
  rw[mz]
  show some (D.bl _)=_
  rw[List.all_map]
  rfl
 simp(disch:=omega) only[hcomp,hall,slD,atO,noO,iaD,itD,ay,aO,aN,aP,bn,ba,bg,aT,a7,bH,bJ,bq,bE,bA,bF,aY,bI,aZ,nmG,bB,aX,bd,bp,ifS,nxS,bD,mk,al,ar,am,aV,aW,oD,uD,bf,bh,cD,ah,ae,ak,bj,bi,bx,orB,bo,bz,orD,bC,aA,aB,aE,if_true,if_false,List.set_cons_zero,List.set_cons_succ,List.length_map,List.length_range,List.length_append,List.length_cons,List.length_nil,aw,aq,ai,aj,ao,au,aD,aF,aG,aH,aI,aJ,aK,aL,aM]
theorem v5{R:Rod}{nm:Nat→Str}(wf:R.WF nm){w:List Bool}(hw:Fit R.rounds R.bs w):d4 [R.o, .tup (w.map .bl)]=some (.lst ((dB R.rounds R.bs w R.first).map fun x=>x.1.o)):=by
 have n1:=wf.n1
 have h2:=zH wf hw
 have ll:=jM (rs:=R.rounds) (bs:=R.bs) (w:=w) (a:=R.first)
 rw[d4,az]
 refine gl ?_
 show dh [some R.o,some (.tup (w.map .bl))]=_
 unfold dh
 have hcomp:bX (itD (ah ja (ae (vD 0) (ae (vD 1) ak)))) dR (oD (aa ixD) (vD 0) (cD (.int 0))) [] [some R.o,some (.tup (w.map .bl))]=some (.lst ((dB R.rounds R.bs w R.first).map fun x=>x.1.o)):=by
  unfold bX
  simp only[itD,ah,ae,ak,bf,bh,aA,h2,cN]
  rw[if_pos (by rw[List.length_map];omega),d6 (f:=fun x:Br×Int=>x.1.o)]
  · rfl
  · intro x _
    refine⟨rfl, ?_⟩
    have i1:aa ixD (lgO x) (.int 0)=some x.1.o:=by unfold lgO;rw[jY];exact ix0
    simp only[oD,bf,cD,aA,i1]
 unfold bd
 rw[hcomp]
 rfl
theorem v6{f:Nat→Int}{a b:List Nat}:gt f (a++b)=gt f a+gt f b:=by unfold gt;rw[List.map_append,List.sum_append]
theorem AN{ws:List Wh}(ok:∀w∈ws,w.Ok)(k:Nat):0≤hiN ws k:=by
 unfold hiN
 cases e:ws[k]? with
 |none=>exact Int.le_refl _
 |some w=>exact(ok w (List.mem_of_getElem? e)).h
theorem xA{ws:List Wh}{W:Int}{i:Nat}(hi:i<ws.length):gt (hiN ws) (win (dY ws) W ws.length i)≤jW ws W:=by
 unfold jW
 cases i with
 |zero=>exact(nz _ _).1
 |succ i=>exact(nz _ _).2 _ (List.mem_map.mpr ⟨i,List.mem_range.mpr (by omega),rfl⟩)
theorem tD{ws:List Wh}{W M:Int}(h:∀i,i<ws.length→gt (hiN ws) (win (dY ws) W ws.length i)≤M)(hn:0<ws.length):jW ws W≤M:=by
 unfold jW
 rcases List.mem_cons.mp (pZ ((List.range (ws.length-1)).map fun i=>gt (hiN ws) (win (dY ws) W ws.length (i+1))) (gt (hiN ws) (win (dY ws) W ws.length 0))) with q|q
 · rw[q];exact h 0 hn
 · obtain⟨i,hi,e⟩:=List.mem_map.mp q
   rw[←e]
   have:=List.mem_range.mp hi
   exact h _ (by omega)
theorem qV{ws:List Wh}{m k:Nat}(h:k<m):dY (ws.take m) k=dY ws k:=by
 unfold dY
 rw[List.drop_take,List.take_take,Nat.min_eq_left (by omega)]
theorem xB{ws:List Wh}{m k:Nat}(h:k<m):hiN (ws.take m) k=hiN ws k:=by
 unfold hiN
 rw[List.getElem?_take,if_pos h]
theorem oU{ws:List Wh}(ok:∀w∈ws,w.Ok){m:Nat}{W:Int}(h0:0<m)(hm:m≤ws.length):jW (ws.take m) W≤jW ws W:=by
 have hl:(ws.take m).length=m:=by rw[List.length_take];omega
 refine tD (fun i hi=>Int.le_trans ?_ (xA (ws:=ws) (W:=W) (i:=i) (by omega))) (by omega)
 rw[hl] at hi ⊢
 obtain⟨r,hr⟩:∃r,ws.length=m+r:=⟨ws.length-m,by omega⟩
 rw[hr]
 have e1:win (dY ws) W (m+r) i=win (dY ws) W m i++((List.range r).map (m+ ·)).filter (nO (dY ws) W i):=by
  unfold win
  rw[List.range_add,List.filter_append]
 have e2:gt (hiN (ws.take m)) (win (dY (ws.take m)) W m i)=gt (hiN ws) (win (dY ws) W m i):=by
  have:win (dY (ws.take m)) W m i=win (dY ws) W m i:=by
   unfold win
   refine List.filter_congr fun k hk=> ?_
   have:=List.mem_range.mp hk
   unfold nO
   rw[qV this,qV hi]
  rw[this]
  unfold gt
  congr 1
  refine List.map_congr_left fun k hk=>xB (List.mem_range.mp (List.mem_filter.mp hk).1)
 rw[e1,v6,e2]
 have:=p0 (AN ok) (((List.range r).map (m+ ·)).filter (nO (dY ws) W i))
 omega
theorem qW{w:Wh}{W M:Int}(h:w.high≤M)(h0:0≤M):jW [w] W≤M:=by
 refine tD (fun i hi=> ?_) Nat.zero_lt_one
 have hi:i<1:=hi
 have:i=0:=by omega
 subst this
 show gt (hiN [w]) ((List.range 1).filter (nO (dY [w]) W 0))≤M
 rw[show List.range 1=[0] from rfl,List.filter_cons,List.filter_nil]
 split
 · show w.high+0≤M
   omega
 · exact h0
def fA(gs:List (Br×Int))(ws:List Wh):Bool:=gs.all fun x=>jt ws x.1
theorem tE{gs:List (Br×Int)}{ws:List Wh}(ok:∀w∈ws,w.Ok){m:Nat}(h0:0<m)(hm:m≤ws.length)(h:fA gs ws=true):fA gs (ws.take m)=true:=by
 refine List.all_eq_true.mpr fun x hx=> ?_
 have:=List.all_eq_true.mp h x hx
 unfold jt at this ⊢
 rw[Bool.and_eq_true,decide_eq_true_eq,decide_eq_true_eq] at this ⊢
 exact⟨Int.le_trans (oU ok h0 hm) this.1,Int.le_trans (oU ok h0 hm) this.2⟩
def Sg(gs:List (Br×Int))(ws:List Wh):Prop:=∀w∈ws,fA gs [w]=true
def seg(ws:List Wh)(f e:Nat):List Wh:=(ws.drop f).take (e-f)
theorem p6{ws:List Wh}{f e:Nat}(h:e≤ws.length):(seg ws f e).length=e-f:=by unfold seg;rw[List.length_take,List.length_drop];omega
theorem xC{ws:List Wh}{f e:Nat}{w:Wh}(h:w∈seg ws f e):w∈ws:=List.mem_of_mem_drop (List.mem_of_mem_take h)
theorem xD{ws:List Wh}{f:Nat}{w:Wh}(h:ws[f]? =some w):seg ws f (f+1)=[w]:=by
 unfold seg
 obtain⟨hf,e⟩:=List.getElem?_eq_some_iff.mp h
 rw[Nat.add_sub_cancel_left,List.drop_eq_getElem_cons hf,e]
 rfl
theorem v7{ws:List Wh}{f e:Nat}{w:Wh}(hf:f≤e)(h:ws[e]? =some w):seg ws f (e+1)=seg ws f e++[w]:=by
 unfold seg
 rw[show e+1-f=e-f+1 from by omega,List.take_add_one,List.getElem?_drop,show f+(e-f)=e from by omega,h]
 rfl
theorem tF{ws:List Wh}{f e:Nat}(he:e≤ws.length)(hf:f≤e):aa ji (.lst (ws.map Wh.t)) (some (f:Int)) (some (e:Int))=some (.lst ((seg ws f e).map Wh.t)):=by
 rw[az]
 show some (D.lst (kZ _ (some (f:Int)) (some (e:Int))))=_
 unfold kZ seg
 rw[HT.sIx_nat,HT.sIx_nat,List.length_map,Nat.min_eq_left (by omega),Nat.min_eq_left (by omega),List.map_take,List.map_drop]
def gO(gs:List (Br×Int)):D:= .lst (gs.map fun x=>x.1.o)
theorem zJ{gs:List (Br×Int)}{ws:List Wh}(h8:ws.length≤8)(hg:gs.length<1000000){f:Nat}:∀(k e:Nat),ws.length-e≤k→f<e→e≤ws.length→fA gs (seg ws f e)=true→∃e',f<e'∧e'≤ws.length∧fA gs (seg ws f e')=true∧(e'=ws.length∨fA gs (seg ws f (e'+1))=false)∧
 whN (bx (bD (oD (aa ltD) (vD 3) (ah (aa fW) (ae (vD 1) ak)))) (bD (ah fU (ae (vD 0) (ae (slD (aa ji) (vD 1) (atO (vD 2)) (atO (oD (aa cF) (vD 3) (cD (.int 1))))) ak)))))
  (a7 3 (mk [false,false,false,false] (oD (aa cF) (vD 3) (cD (.int 1))))) (k+1) [some (gO gs),some (.lst (ws.map Wh.t)),some (.int (f:Int)),some (.int (e:Int))]=some (.nx [some (gO gs),some (.lst (ws.map Wh.t)),some (.int (f:Int)),some (.int (e':Int))]):=by
 intro k
 induction k with
 |zero=>
  intro e hk hf he ha
  have:e=ws.length:=by omega
  refine⟨e,hf,he,ha, .inl this, ?_⟩
  have hl:decide ((e:Int)<(ws.length:Int))=false:=decide_eq_false (by omega)
  rw[whN]
  simp(disch:=omega) only[hl,Bool.false_eq_true,slD,atO,noO,iaD,itD,ay,aO,aN,aP,bn,ba,bg,aT,a7,bH,bJ,bq,bE,bA,bF,aY,bI,aZ,nmG,bB,aX,bd,bp,ifS,nxS,bD,mk,al,ar,am,aV,aW,oD,uD,bf,bh,cD,ah,ae,ak,bj,bi,bx,orB,bo,bz,orD,bC,aA,aB,aE,if_true,if_false,List.set_cons_zero,List.set_cons_succ,List.length_map,List.length_range,List.length_append,List.length_cons,List.length_nil,aw,aq,ai,aj,ao,au,aD,aF,aG,aH,aI,aJ,aK,aL,aM]
 |succ k ih=>
  intro e hk hf he ha
  by_cases hl:e<ws.length
  · have hd:decide ((e:Int)<(ws.length:Int))=true:=decide_eq_true (by omega)
    have hc:=tF (ws:=ws) (f:=f) (e:=e+1) (by omega) (by omega)
    rw[Int.natCast_add] at hc
    have hc:aa ji (.lst (ws.map Wh.t)) (some (f:Int)) (some ((e:Int)+1))=some (.lst ((seg ws f (e+1)).map Wh.t)):=hc
    have sl:=p6 (ws:=ws) (f:=f) (e:=e+1) (by omega)
    have hf2:=uh (ws:=seg ws f (e+1)) (gs:=gs) (by omega) (by omega) hg
    have hf2:fU [gO gs, .lst ((seg ws f (e+1)).map Wh.t)]=some (.bl (fA gs (seg ws f (e+1)))):=hf2
    cases q:fA gs (seg ws f (e+1)) with
    |true=>
     obtain⟨e',a,b,c,d,w⟩:=ih (e+1) (by omega) (by omega) (by omega) q
     refine⟨e',a,b,c,d, ?_⟩
     rw[q] at hf2
     rw[Int.natCast_add] at w
     rw[whN]
     generalize gO gs=G at*
     generalize hX:(seg ws f (e+1)).map Wh.t=X at*
     generalize (e':Int)=E' at*
     simp(disch:=omega) only[hd,hc,hf2,slD,atO,noO,iaD,itD,ay,aO,aN,aP,bn,ba,bg,aT,a7,bH,bJ,bq,bE,bA,bF,aY,bI,aZ,nmG,bB,aX,bd,bp,ifS,nxS,bD,mk,al,ar,am,aV,aW,oD,uD,bf,bh,cD,ah,ae,ak,bj,bi,bx,orB,bo,bz,orD,bC,aA,aB,aE,if_true,if_false,List.set_cons_zero,List.set_cons_succ,List.length_map,List.length_range,List.length_append,List.length_cons,List.length_nil,aw,aq,ai,aj,ao,au,aD,aF,aG,aH,aI,aJ,aK,aL,aM]
     exact w
    |false=>
     refine⟨e,hf,he,ha, .inr q, ?_⟩
     rw[q] at hf2
     rw[whN]
     generalize gO gs=G at*
     generalize hX:(seg ws f (e+1)).map Wh.t=X at*
     simp(disch:=omega) only[hd,hc,hf2,Bool.false_eq_true,slD,atO,noO,iaD,itD,ay,aO,aN,aP,bn,ba,bg,aT,a7,bH,bJ,bq,bE,bA,bF,aY,bI,aZ,nmG,bB,aX,bd,bp,ifS,nxS,bD,mk,al,ar,am,aV,aW,oD,uD,bf,bh,cD,ah,ae,ak,bj,bi,bx,orB,bo,bz,orD,bC,aA,aB,aE,if_true,if_false,List.set_cons_zero,List.set_cons_succ,List.length_map,List.length_range,List.length_append,List.length_cons,List.length_nil,aw,aq,ai,aj,ao,au,aD,aF,aG,aH,aI,aJ,aK,aL,aM]
  · refine⟨e,hf,he,ha, .inl (by omega), ?_⟩
    have hd:decide ((e:Int)<(ws.length:Int))=false:=decide_eq_false (by omega)
    rw[whN]
    simp(disch:=omega) only[hd,Bool.false_eq_true,slD,atO,noO,iaD,itD,ay,aO,aN,aP,bn,ba,bg,aT,a7,bH,bJ,bq,bE,bA,bF,aY,bI,aZ,nmG,bB,aX,bd,bp,ifS,nxS,bD,mk,al,ar,am,aV,aW,oD,uD,bf,bh,cD,ah,ae,ak,bj,bi,bx,orB,bo,bz,orD,bC,aA,aB,aE,if_true,if_false,List.set_cons_zero,List.set_cons_succ,List.length_map,List.length_range,List.length_append,List.length_cons,List.length_nil,aw,aq,ai,aj,ao,au,aD,aF,aG,aH,aI,aJ,aK,aL,aM]
theorem zK{gs:List (Br×Int)}{ws:List Wh}(sg:Sg gs ws)(h8:ws.length≤8)(hg:gs.length<1000000){f:Nat}(hf:f<ws.length):∃e',f<e'∧e'≤ws.length∧fA gs (seg ws f e')=true∧(e'=ws.length∨fA gs (seg ws f (e'+1))=false)∧jb [gO gs, .lst (ws.map Wh.t), .int (f:Int)]=some (.int (e':Int)):=by
 have h1:fA gs (seg ws f (f+1))=true:=by
  rw[xD (List.getElem?_eq_getElem hf)]
  exact sg _ (List.getElem_mem hf)
 obtain⟨e',a,b,c,d,w⟩:=zJ h8 hg (f:=f) 10 (f+1) (by omega) (by omega) (by omega) h1
 refine⟨e',a,b,c,d, ?_⟩
 have w:=ve w
 rw[Int.natCast_add] at w
 rw[jb,az]
 refine dO ?_
 show im [some (gO gs),some (.lst (ws.map Wh.t)),some (.int (f:Int)),none]=_
 unfold im
 refine(bc (by
  simp(disch:=omega) only[hg,slD,atO,noO,iaD,itD,ay,aO,aN,aP,bn,ba,bg,aT,a7,bH,bJ,bq,bE,bA,bF,aY,bI,aZ,nmG,bB,aX,bd,bp,ifS,nxS,bD,mk,al,ar,am,aV,aW,oD,uD,bf,bh,cD,ah,ae,ak,bj,bi,bx,orB,bo,bz,orD,bC,aA,aB,aE,if_true,if_false,List.set_cons_zero,List.set_cons_succ,List.length_map,List.length_range,List.length_append,List.length_cons,List.length_nil,aw,aq,ai,aj,ao,au,aD,aF,aG,aH,aI,aJ,aK,aL,aM]
  try rfl)).trans ?_
 refine(bc w).trans ?_
 simp(disch:=omega) only[hg,slD,atO,noO,iaD,itD,ay,aO,aN,aP,bn,ba,bg,aT,a7,bH,bJ,bq,bE,bA,bF,aY,bI,aZ,nmG,bB,aX,bd,bp,ifS,nxS,bD,mk,al,ar,am,aV,aW,oD,uD,bf,bh,cD,ah,ae,ak,bj,bi,bx,orB,bo,bz,orD,bC,aA,aB,aE,if_true,if_false,List.set_cons_zero,List.set_cons_succ,List.length_map,List.length_range,List.length_append,List.length_cons,List.length_nil,aw,aq,ai,aj,ao,au,aD,aF,aG,aH,aI,aJ,aK,aL,aM]
theorem zL{gs:List (Br×Int)}{w:Wh}{a b k:D}(h:∀x∈gs,jt [w] x.1=true):∀(o:Option D),∃o',fk (nmG 4) (ifS (bo (bD (ah fH (ae (vD 4) (ae (bi (ae (vD 3) ak)) ak))))) nvS nxS) (gs.map fun x=>x.1.o) [some a,some b,some k,some w.t,o]=some (.nx [some a,some b,some k,some w.t,o']):=by
 induction gs with
 |nil=>exact fun o=>⟨o,rfl⟩
 |cons x gs ih=>
  intro o
  obtain⟨o',e⟩:=ih (fun y hy=>h y (List.mem_cons_of_mem _ hy)) (some x.1.o)
  refine⟨o', ?_⟩
  have hf:=v0 (ws:=[w]) (b:=x.1) Nat.zero_lt_one (show 1≤8 by decide)
  rw[h x List.mem_cons_self] at hf
  have hf:fH [x.1.o, .lst [w.t]]=some (.bl true):=hf
  rw[List.map_cons,fk]
  simp(disch:=omega) only[hf,Bool.not_true,Bool.false_eq_true,slD,atO,noO,iaD,itD,ay,aO,aN,aP,bn,ba,bg,aT,a7,bH,bJ,bq,bE,bA,bF,aY,bI,aZ,nmG,bB,aX,bd,bp,ifS,nxS,bD,mk,al,ar,am,aV,aW,oD,uD,bf,bh,cD,ah,ae,ak,bj,bi,bx,orB,bo,bz,orD,bC,aA,aB,aE,if_true,if_false,List.set_cons_zero,List.set_cons_succ,List.length_map,List.length_range,List.length_append,List.length_cons,List.length_nil,aw,aq,ai,aj,ao,au,aD,aF,aG,aH,aI,aJ,aK,aL,aM]
  exact e
theorem v8{gs:List (Br×Int)}{ws:List Wh}(sg:Sg gs ws):fE [gO gs, .lst (ws.map Wh.t)]=some .non:=by
 obtain⟨e',hloop,o2,o3,o4,rfl⟩:=dA (g:=bB [2,3]) (b:=(bn (mk Fc (itD (vD 0))) (nmG 4) (ifS (bo (bD (ah fH (ae (vD 4) (ae (bi (ae (vD 3) ak)) ak))))) nvS nxS))) (ds:=hU (ws.map Wh.t)) (env:=[some (gO gs),some (.lst (ws.map Wh.t)),none,none,none])
  (fun i e=>∃o2 o3 o4,e=[some (gO gs),some (.lst (ws.map Wh.t)),o2,o3,o4]) ⟨none,none,none,rfl⟩ (by
   rintro i d e hd ⟨o2,o3,o4,rfl⟩
   unfold hU at hd
   rw[List.getElem?_mapIdx,List.getElem?_map] at hd
   obtain⟨z,hz,rfl⟩:=Option.map_eq_some_iff.mp hd
   obtain⟨w,hw,rfl⟩:=Option.map_eq_some_iff.mp hz
   refine⟨_,rfl, ?_⟩
   obtain⟨o',e⟩:=zL (gs:=gs) (w:=w) (a:=gO gs) (b:= .lst (ws.map Wh.t)) (k:= .int (i:Int)) (fun x hx=>List.all_eq_true.mp (sg w (List.mem_of_getElem? hw)) x hx) o4
   refine⟨_, ?_,some (.int (i:Int)),some w.t,o',rfl⟩
   exact e)
 rw[fE,az]
 show ba 5 cQ _=_
 unfold ba
 show (cQ [some (gO gs),some (.lst (ws.map Wh.t)),none,none,none]).bind _=_
 unfold cQ
 simp only[bn,mk,al,am,iaD,ae,ak,bf,bh,aA,ay]
 rw[hloop]
 rfl
structure Pt(gs:List (Br×Int))(us:List Wh)(rs:List (List Wh)):Prop where
 fl:rs.flatten=us
 ne:∀r∈rs,r≠[]
 ft:∀r∈rs,fA gs r=true
 ad:∀(k:Nat) (r:List Wh) (w:Wh) (s:List Wh),rs[k]? =some r→rs[k+1]? =some (w::s)→fA gs (r++[w])=false
theorem Pt.one{gs:List (Br×Int)}{us:List Wh}{rs:List (List Wh)}(p:Pt gs us rs)(ok:∀w∈us,w.Ok)(h0:us≠[])(h:fA gs us=true):rs=[us]:=by
 cases rs with
 |nil=>exact absurd p.fl.symm h0
 |cons r t=>
  cases t with
  |nil=>
   have:=p.fl
   simp at this
   rw[this]
  |cons s t=>
   cases s with
   |nil=>exact absurd rfl (p.ne [] (List.mem_cons_of_mem _ List.mem_cons_self))
   |cons w s=>
    have a:=p.ad 0 r w s rfl rfl
    have e:us=(r++[w])++(s++t.flatten):=by rw[←p.fl];simp
    have ln:(r++[w]).length≤us.length:=by rw[e,List.length_append (as:=r++[w])];exact Nat.le_add_right _ _
    have tk:us.take (r++[w]).length=r++[w]:=by
     conv=>lhs;rw[e]
     rw[List.take_left']
     rfl
    have:=tE ok (m:=(r++[w]).length) (by rw[List.length_append];simp) ln h
    rw[tk,a] at this
    cases this
structure Ct where
 name:Str
 speed:Int
 ws:List Wh
def Ct.o(c:Ct):D:= .ob .Cart [(.name, .str c.name),(.speed, .int c.speed),(.wheels, .lst (c.ws.map Wh.t))]
theorem qX:∀ws:List Wh,flats (ws.map Wh.t)=true
 |[]=>rfl
 |w::ws=>by
  show ((Wh.t w).flat&&flats (ws.map Wh.t))=true
  rw[qX ws]
  rfl
theorem qa{n:Str}{s:Int}{ws:List Wh}:jK [.str n, .int s, .lst (ws.map Wh.t)]=some [(.name, .str n),(.speed, .int s),(.wheels, .lst (ws.map Wh.t))]:=by
 show lQ [(.name,PD.flatV (vD 1)),(.speed,PD.flatV (vD 2)),(.wheels,xn (ah (aa jB) (ae (vD 3) ak)))] [none,some (.str n),some (.int s),some (.lst (ws.map Wh.t))]=_
 simp only[lQ,PD.flatV,xn,ah,ae,ak,bf,bh,aA,vR,Option.map_some,qX,D.flat,aB,if_true]
theorem v9{c:Ct}:aa (bU .name) c.o=some (.str c.name):=iI rfl
theorem uk{c:Ct}:aa (bU .speed) c.o=some (.int c.speed):=iI rfl
theorem nP{c:Ct}:aa (bU .wheels) c.o=some (.lst (c.ws.map Wh.t)):=iI rfl
theorem xE{c:Nat}{F G:SF}{e e1:PD.Env}{d:D}(h:F e=some (.nx e1))(hc:(e1[c]?).join=some (.lst []))(hg:G e1=some (.rt d)):vH c F G e=some (.rt d):=by
 unfold vH
 rw[h,aA]
 simp only[hc,hg,aA]
def ib(n:Str)(s:Int)(rs:List (List Wh)):D:= .lst (rs.map fun r=>(Ct.mk n s r).o)
theorem zM{gs:List (Br×Int)}:Pt gs [] []:=⟨rfl,fun _ h=>(by cases h),fun _ h=>(by cases h),fun _ _ _ _ h _=>(by cases h)⟩
theorem rV{gs:List (Br×Int)}{us:List Wh}{rs:List (List Wh)}(p:Pt gs us rs):rs.length≤us.length:=by
 rw[←p.fl]
 have:=p.ne
 clear p
 induction rs with
 |nil=>exact Nat.le_refl _
 |cons r t ih=>
  rw[List.flatten_cons,List.length_append,List.length_cons]
  have h1:0<r.length:=List.length_pos_iff.mpr (this r List.mem_cons_self)
  have:=ih fun s hs=>this s (List.mem_cons_of_mem _ hs)
  omega
theorem xF{gs:List (Br×Int)}{us r:List Wh}{rs:List (List Wh)}(p:Pt gs us rs)(h0:r≠[])(hf:fA gs r=true)(ha:∀l,rs.getLast?=some l→∀w,r.head?=some w→fA gs (l++[w])=false):Pt gs (us++r) (rs++[r]) where
 fl:=by rw[List.flatten_append,p.fl];simp
 ne x hx:=by
  rcases List.mem_append.mp hx with h|h
  · exact p.ne x h
  · rw[List.mem_singleton.mp h];exact h0
 ft x hx:=by
  rcases List.mem_append.mp hx with h|h
  · exact p.ft x h
  · rw[List.mem_singleton.mp h];exact hf
 ad k a w s h1 h2:=by
  have hk:=(List.getElem?_eq_some_iff.mp h2).1
  rw[List.length_append,List.length_singleton] at hk
  rw[List.getElem?_append_left (by omega)] at h1
  by_cases hk2:k+1<rs.length
  · rw[List.getElem?_append_left hk2] at h2
    exact p.ad k a w s h1 h2
  · have e:k+1=rs.length:=by omega
    rw[List.getElem?_append_right (by omega),e,Nat.sub_self] at h2
    cases h2
    exact ha a (by rw[List.getLast?_eq_getElem?,show rs.length-1=k from by omega];exact h1) w rfl
theorem xG{gs:List (Br×Int)}{n:Str}{s:Int}{ws:List Wh}{a y:D}(sg:Sg gs ws)(h8:ws.length≤8)(hg:gs.length<1000000):∀(k f:Nat) (rs:List (List Wh)) (o6:Option D),ws.length-f≤k→f≤ws.length→Pt gs (ws.take f) rs→(∀l,rs.getLast?=some l→∀w,ws[f]? =some w→fA gs (l++[w])=false)→∃rs' o6',Pt gs ws rs'∧
 whN (bD (oD (aa ltD) (vD 5) (ah (aa fW) (ae (uD (aa (bU .wheels)) (vD 1)) ak)))) ((aT (a7 6 (mk Fk (ah jb (ae (vD 3) (ae (uD (aa (bU .wheels)) (vD 1)) (ae (vD 5) ak)))))) (aT (vE 4 (fo .Cart jK (ae (uD (aa (bU .name)) (vD 1)) (ae (uD (aa (bU .speed)) (vD 1)) (ae (slD (aa ji) (uD (aa (bU .wheels)) (vD 1)) (atO (vD 5)) (atO (vD 6))) ak))))) (a7 5 (mk Fk (vD 6)))))) (k+1) [some a,some (Ct.mk n s ws).o,some y,some (gO gs),some (ib n s rs),some (.int (f:Int)),o6]=some (.nx [some a,some (Ct.mk n s ws).o,some y,some (gO gs),some (ib n s rs'),some (.int (ws.length:Int)),o6']):=by
 have hw:aa (bU .wheels) (Ct.mk n s ws).o=some (.lst (ws.map Wh.t)):=nP
 have hnm:aa (bU .name) (Ct.mk n s ws).o=some (.str n):=v9
 have hsp:aa (bU .speed) (Ct.mk n s ws).o=some (.int s):=uk
 intro k
 induction k with
 |zero=>
  intro f rs o6 hk hf p _
  have hf':f=ws.length:=by omega
  subst hf'
  rw[List.take_of_length_le (Nat.le_refl _)] at p
  refine⟨rs,o6,p, ?_⟩
  rw[whN]
  have hl:decide ((ws.length:Int)<(ws.length:Int))=false:=decide_eq_false (by omega)
  generalize (Ct.mk n s ws).o=C at*
  generalize ib n s rs=RS at*
  simp(disch:=omega) only[hw,hl,Bool.false_eq_true,slD,atO,noO,iaD,itD,ay,aO,aN,aP,bn,ba,bg,aT,a7,bH,bJ,bq,bE,bA,bF,aY,bI,aZ,nmG,bB,aX,bd,bp,ifS,nxS,bD,mk,al,ar,am,aV,aW,oD,uD,bf,bh,cD,ah,ae,ak,bj,bi,bx,orB,bo,bz,orD,bC,aA,aB,aE,if_true,if_false,List.set_cons_zero,List.set_cons_succ,List.length_map,List.length_range,List.length_append,List.length_cons,List.length_nil,aw,aq,ai,aj,ao,au,aD,aF,aG,aH,aI,aJ,aK,aL,aM]
 |succ k ih=>
  intro f rs o6 hk hf p hlast
  by_cases hl:f<ws.length
  · obtain⟨e',a1,a2,a3,a4,hre⟩:=zK sg h8 hg hl
    have hc:=tF (ws:=ws) (f:=f) (e:=e') a2 (by omega)
    have hd:decide ((f:Int)<(ws.length:Int))=true:=decide_eq_true (by omega)
    have sl:=p6 (ws:=ws) (f:=f) (e:=e') a2
    have ne:seg ws f e'≠[]:=fun z=>by rw[z] at sl;simp at sl;omega
    have hh:∀w,(seg ws f e').head?=some w→ws[f]? =some w:=fun w h=>by
     unfold seg at h
     rw[List.head?_take,if_neg (by omega),List.head?_drop] at h
     exact h
    have p2:=xF p ne a3 fun l h w hwd=>hlast l h w (hh w hwd)
    have et:ws.take f++seg ws f e'=ws.take e':=by
     unfold seg
     conv=>rhs;rw[show e'=f+(e'-f) from by omega]
     rw[List.take_add]
    rw[et] at p2
    obtain⟨rs',o6',p3,w⟩:=ih e' (rs++[seg ws f e']) (some (.int (e':Int))) (by omega) a2 p2 (fun l h w hwd=>by
     rw[List.getLast?_concat] at h
     cases h
     rcases a4 with q|q
     · rw[q,List.getElem?_eq_none (Nat.le_refl _)] at hwd
       cases hwd
     · rw[v7 (by omega) hwd] at q
       exact q)
    refine⟨rs',o6',p3, ?_⟩
    have rl:rs.length<1000000:=by
     have:=rV p
     rw[List.length_take] at this
     omega
    have hI:=qa (n:=n) (s:=s) (ws:=seg ws f e')
    have er:ib n s (rs++[seg ws f e'])= .lst ((rs.map fun r=>(Ct.mk n s r).o)++[.ob .Cart [(.name, .str n),(.speed, .int s),(.wheels, .lst ((seg ws f e').map Wh.t))]]):=by
     unfold ib
     rw[List.map_append]
     rfl
    rw[er] at w
    rw[whN]
    have e0:ib n s rs= .lst (rs.map fun r=>(Ct.mk n s r).o):=rfl
    rw[e0]
    generalize hX:(seg ws f e').map Wh.t=X at*
    have hlr:(rs.map fun r=>(Ct.mk n s r).o).length<1000000:=by rw[List.length_map];exact rl
    generalize (rs.map fun r=>(Ct.mk n s r).o)=RR at*
    generalize (Ct.mk n s ws).o=C at*
    generalize gO gs=G at*
    generalize ib n s rs'=RS' at*
    simp only[bD,oD,ah,ae,ak,uD,bf,bh,aA,hw,aN,List.length_map,aD,hd,aB]
    simp(disch:=omega) only[hw,hre,hnm,hsp,vE,fo,hc,hI,Option.map_some,hlr,slD,atO,noO,iaD,itD,ay,aO,aN,aP,bn,ba,bg,aT,a7,bH,bJ,bq,bE,bA,bF,aY,bI,aZ,nmG,bB,aX,bd,bp,ifS,nxS,bD,mk,al,ar,am,aV,aW,oD,uD,bf,bh,cD,ah,ae,ak,bj,bi,bx,orB,bo,bz,orD,bC,aA,aB,aE,if_true,if_false,List.set_cons_zero,List.set_cons_succ,List.length_map,List.length_range,List.length_append,List.length_cons,List.length_nil,aw,aq,ai,aj,ao,au,aD,aF,aG,aH,aI,aJ,aK,aL,aM]
    exact w
  · have hf':f=ws.length:=by omega
    subst hf'
    rw[List.take_of_length_le (Nat.le_refl _)] at p
    refine⟨rs,o6,p, ?_⟩
    rw[whN]
    have hl:decide ((ws.length:Int)<(ws.length:Int))=false:=decide_eq_false (by omega)
    generalize (Ct.mk n s ws).o=C at*
    generalize ib n s rs=RS at*
    simp(disch:=omega) only[hw,hl,Bool.false_eq_true,slD,atO,noO,iaD,itD,ay,aO,aN,aP,bn,ba,bg,aT,a7,bH,bJ,bq,bE,bA,bF,aY,bI,aZ,nmG,bB,aX,bd,bp,ifS,nxS,bD,mk,al,ar,am,aV,aW,oD,uD,bf,bh,cD,ah,ae,ak,bj,bi,bx,orB,bo,bz,orD,bC,aA,aB,aE,if_true,if_false,List.set_cons_zero,List.set_cons_succ,List.length_map,List.length_range,List.length_append,List.length_cons,List.length_nil,aw,aq,ai,aj,ao,au,aD,aF,aG,aH,aI,aJ,aK,aL,aM]
theorem rW{R:Rod}{nm:Nat→Str}(wf:R.WF nm){w:List Bool}(hw:Fit R.rounds R.bs w){n:Str}{s:Int}{ws:List Wh}(sg:Sg (dB R.rounds R.bs w R.first) ws)(h8:ws.length≤8):∃rs,Pt (dB R.rounds R.bs w R.first) ws rs∧d5 [R.o,(Ct.mk n s ws).o, .tup (w.map .bl)]=some (ib n s rs):=by
 have n1:=wf.n1
 have b1:=v5 wf hw
 have ll:=jM (rs:=R.rounds) (bs:=R.bs) (w:=w) (a:=R.first)
 generalize dB R.rounds R.bs w R.first=gs at*
 have b1:d4 [R.o, .tup (w.map .bl)]=some (gO gs):=b1
 have b2:=v8 sg
 obtain⟨rs,o6,p,hwh⟩:=xG (a:=R.o) (y:= .tup (w.map .bl)) (n:=n) (s:=s) sg h8 (by omega) 9 0 [] none (by omega) (by omega) zM (fun l h=>by cases h)
 have hwh:=ve hwh
 refine⟨rs,p, ?_⟩
 have hwl:aa (bU .wheels) (Ct.mk n s ws).o=some (.lst (ws.map Wh.t)):=nP
 have hwh:whS _ _ [some R.o,some (Ct.mk n s ws).o,some (.tup (w.map .bl)),some (gO gs),some (.lst []),some (.int 0),none]=_:=hwh
 rw[d5,az]
 refine gl ?_
 show jc [some R.o,some (Ct.mk n s ws).o,some (.tup (w.map .bl)),none,none,none,none]=_
 unfold jc
 generalize (Ct.mk n s ws).o=C at*
 generalize R.o=RO at*
 generalize gO gs=G at*
 refine(bc (by
  simp(disch:=omega) only[b1,slD,atO,noO,iaD,itD,ay,aO,aN,aP,bn,ba,bg,aT,a7,bH,bJ,bq,bE,bA,bF,aY,bI,aZ,nmG,bB,aX,bd,bp,ifS,nxS,bD,mk,al,ar,am,aV,aW,oD,uD,bf,bh,cD,ah,ae,ak,bj,bi,bx,orB,bo,bz,orD,bC,aA,aB,aE,if_true,if_false,List.set_cons_zero,List.set_cons_succ,List.length_map,List.length_range,List.length_append,List.length_cons,List.length_nil,aw,aq,ai,aj,ao,au,aD,aF,aG,aH,aI,aJ,aK,aL,aM]
  try rfl)).trans ?_
 refine(bc (by
  simp(disch:=omega) only[b2,hwl,slD,atO,noO,iaD,itD,ay,aO,aN,aP,bn,ba,bg,aT,a7,bH,bJ,bq,bE,bA,bF,aY,bI,aZ,nmG,bB,aX,bd,bp,ifS,nxS,bD,mk,al,ar,am,aV,aW,oD,uD,bf,bh,cD,ah,ae,ak,bj,bi,bx,orB,bo,bz,orD,bC,aA,aB,aE,if_true,if_false,List.set_cons_zero,List.set_cons_succ,List.length_map,List.length_range,List.length_append,List.length_cons,List.length_nil,aw,aq,ai,aj,ao,au,aD,aF,aG,aH,aI,aJ,aK,aL,aM]
  try rfl)).trans ?_
 refine xE (e1:=[some RO,some C,some (.tup (w.map .bl)),some G,some (.lst []),none,none]) ?_ rfl ?_
 · skip
   simp(disch:=omega) only[b1,slD,atO,noO,iaD,itD,ay,aO,aN,aP,bn,ba,bg,aT,a7,bH,bJ,bq,bE,bA,bF,aY,bI,aZ,nmG,bB,aX,bd,bp,ifS,nxS,bD,mk,al,ar,am,aV,aW,oD,uD,bf,bh,cD,ah,ae,ak,bj,bi,bx,orB,bo,bz,orD,bC,aA,aB,aE,if_true,if_false,List.set_cons_zero,List.set_cons_succ,List.length_map,List.length_range,List.length_append,List.length_cons,List.length_nil,aw,aq,ai,aj,ao,au,aD,aF,aG,aH,aI,aJ,aK,aL,aM]
 · skip
   refine(bc (by
    simp(disch:=omega) only[b1,slD,atO,noO,iaD,itD,ay,aO,aN,aP,bn,ba,bg,aT,a7,bH,bJ,bq,bE,bA,bF,aY,bI,aZ,nmG,bB,aX,bd,bp,ifS,nxS,bD,mk,al,ar,am,aV,aW,oD,uD,bf,bh,cD,ah,ae,ak,bj,bi,bx,orB,bo,bz,orD,bC,aA,aB,aE,if_true,if_false,List.set_cons_zero,List.set_cons_succ,List.length_map,List.length_range,List.length_append,List.length_cons,List.length_nil,aw,aq,ai,aj,ao,au,aD,aF,aG,aH,aI,aJ,aK,aL,aM]
    try rfl)).trans ?_
   refine(bc hwh).trans ?_
   rfl
theorem wa{cs:List Ct}{c:Ct}(hl:cs.length≤8)(h8:∀c∈cs,c.ws.length≤8)(h0:cs[0]? =some c):iD [.lst (cs.map Ct.o)]=some (Ct.mk c.name c.speed (cs.map Ct.ws).flatten).o:=by
 obtain⟨e',hloop,o2,rfl⟩:=dA (g:=nmG 2) (b:=(bA 1 (mk [false,true,false] (uD (aa (bU .wheels)) (vD 2))))) (ds:=cs.map Ct.o) (env:=[some (.lst (cs.map Ct.o)),some (.lst []),none])
  (fun i e=>∃o2,e=[some (.lst (cs.map Ct.o)),some (.lst (((cs.take i).map Ct.ws).flatten.map Wh.t)),o2]) ⟨none,rfl⟩ (by
   rintro i d e hd ⟨o2,rfl⟩
   rw[List.getElem?_map] at hd
   obtain⟨x,hx,rfl⟩:=Option.map_eq_some_iff.mp hd
   have hi:=(List.getElem?_eq_some_iff.mp hx).1
   refine⟨_,rfl, ?_⟩
   refine⟨[some (.lst (cs.map Ct.o)),some (.lst (((cs.take (i+1)).map Ct.ws).flatten.map Wh.t)),some x.o], ?_,some x.o,rfl⟩
   have et:((cs.take (i+1)).map Ct.ws).flatten.map Wh.t=((cs.take i).map Ct.ws).flatten.map Wh.t++x.ws.map Wh.t:=by
    rw[List.take_add_one,hx,List.map_append,List.flatten_append,List.map_append]
    simp
   have hln:∀us:List Ct,(∀c∈us,c.ws.length≤8)→((us.map Ct.ws).flatten).length≤8*us.length:=fun us=>by
    induction us with
    |nil=>exact fun _=>Nat.le_refl _
    |cons u us ih=>
     intro h
     rw[List.map_cons,List.flatten_cons,List.length_append,List.length_cons]
     have:=ih fun c hc=>h c (List.mem_cons_of_mem _ hc)
     have:=h u List.mem_cons_self
     omega
   have h1:=hln (cs.take i) fun c hc=>h8 c (List.mem_of_mem_take hc)
   have h2:=h8 x (List.mem_of_getElem? hx)
   rw[List.length_take] at h1
   have hlt:(((cs.take i).map Ct.ws).flatten.map Wh.t).length+(x.ws.map Wh.t).length<1000000:=by rw[List.length_map,List.length_map];omega
   have gw:=nP (c:=x)
   rw[et]
   generalize ((cs.take i).map Ct.ws).flatten.map Wh.t=A at*
   generalize x.ws.map Wh.t=B at*
   show bA 1 _ [some (.lst (cs.map Ct.o)),some (.lst A),some x.o]=_
   unfold bA
   simp only[mk,al,ar,am,uD,bf,bh,aA,gw,aW,aV,if_pos hlt,List.set_cons_zero,List.set_cons_succ])
 rw[List.length_map,List.take_of_length_le (Nat.le_refl _)] at hloop
 have hix:atI (cs.map Ct.o) 0=some c.o:=gM (n:=0) (by rw[List.getElem?_map,h0];rfl)
 have hI:=qa (n:=c.name) (s:=c.speed) (ws:=(cs.map Ct.ws).flatten)
 have gn:=v9 (c:=c)
 have gs:=uk (c:=c)
 rw[iD,az]
 refine gl ?_
 show i9 [some (.lst (cs.map Ct.o)),none,none]=_
 unfold i9
 have hO:(Ct.mk c.name c.speed (cs.map Ct.ws).flatten).o= .ob .Cart [(.name, .str c.name),(.speed, .int c.speed),(.wheels, .lst ((cs.map Ct.ws).flatten.map Wh.t))]:=rfl
 rw[hO]
 generalize hX:(cs.map Ct.ws).flatten.map Wh.t=X at*
 generalize cs.map Ct.o=CO at*
 refine(bc (by
  simp(disch:=omega) only[hX,slD,atO,noO,iaD,itD,ay,aO,aN,aP,bn,ba,bg,aT,a7,bH,bJ,bq,bE,bA,bF,aY,bI,aZ,nmG,bB,aX,bd,bp,ifS,nxS,bD,mk,al,ar,am,aV,aW,oD,uD,bf,bh,cD,ah,ae,ak,bj,bi,bx,orB,bo,bz,orD,bC,aA,aB,aE,if_true,if_false,List.set_cons_zero,List.set_cons_succ,List.length_map,List.length_range,List.length_append,List.length_cons,List.length_nil,aw,aq,ai,aj,ao,au,aD,aF,aG,aH,aI,aJ,aK,aL,aM]
  try rfl)).trans ?_
 refine(bc (by
  simp(disch:=omega) only[cN,hloop,slD,atO,noO,iaD,itD,ay,aO,aN,aP,bn,ba,bg,aT,a7,bH,bJ,bq,bE,bA,bF,aY,bI,aZ,nmG,bB,aX,bd,bp,ifS,nxS,bD,mk,al,ar,am,aV,aW,oD,uD,bf,bh,cD,ah,ae,ak,bj,bi,bx,orB,bo,bz,orD,bC,aA,aB,aE,if_true,if_false,List.set_cons_zero,List.set_cons_succ,List.length_map,List.length_range,List.length_append,List.length_cons,List.length_nil,aw,aq,ai,aj,ao,au,aD,aF,aG,aH,aI,aJ,aK,aL,aM]
  try rfl)).trans ?_
 show bd _ _=_
 simp(disch:=omega) only[gS,hix,gn,gs,fo,hI,Option.map_some,slD,atO,noO,iaD,itD,ay,aO,aN,aP,bn,ba,bg,aT,a7,bH,bJ,bq,bE,bA,bF,aY,bI,aZ,nmG,bB,aX,bd,bp,ifS,nxS,bD,mk,al,ar,am,aV,aW,oD,uD,bf,bh,cD,ah,ae,ak,bj,bi,bx,orB,bo,bz,orD,bC,aA,aB,aE,if_true,if_false,List.set_cons_zero,List.set_cons_succ,List.length_map,List.length_range,List.length_append,List.length_cons,List.length_nil,aw,aq,ai,aj,ao,au,aD,aF,aG,aH,aI,aJ,aK,aL,aM]
theorem qb{ws:List Wh}{k:Nat}(h:ws.length<1000000):Good (k+3) (.lst (ws.map Wh.t)):= .lst (fun x hx=>by
 obtain⟨w,_,rfl⟩:=List.mem_map.mp hx
 refine .tup (fun y hy=> ?_) (show 3<1000000 by decide)
 simp only[List.mem_cons,List.not_mem_nil,or_false] at hy
 rcases hy with rfl|rfl|rfl<;>exact .int _ _) (by rw[List.length_map];exact h)
theorem tG{n:Str}{s:Int}{ws:List Wh}(h:ws.length<1000000):cY [(Ct.mk n s ws).o, .str n, .int s, .lst (ws.map Wh.t)]=some (.bl true):=by
 have g:Good 4 (.tup [.str n, .int s, .lst (ws.map Wh.t)]):= .tup (fun y hy=>by
  simp only[List.mem_cons,List.not_mem_nil,or_false] at hy
  rcases hy with rfl|rfl|rfl
  · exact .str _ _
  · exact .int _ _
  · exact qb h) (show 3<1000000 by decide)
 have hs:=pW g
 have hw:aa (bU .wheels) (Ct.mk n s ws).o=some (.lst (ws.map Wh.t)):=nP
 have hnm:aa (bU .name) (Ct.mk n s ws).o=some (.str n):=v9
 have hsp:aa (bU .speed) (Ct.mk n s ws).o=some (.int s):=uk
 have hc:aa (isC .Cart) [(Ct.mk n s ws).o]=some (.bl true):=oB (by decide)
 rw[cY,az]
 refine dO ?_
 show eh [some (Ct.mk n s ws).o,some (.str n),some (.int s),some (.lst (ws.map Wh.t))]=_
 unfold eh
 generalize (Ct.mk n s ws).o=C at*
 generalize F_law_same=S at*
 refine(bc (by
  simp(disch:=omega) only[hc,Bool.not_true,Bool.false_eq_true,slD,atO,noO,iaD,itD,ay,aO,aN,aP,bn,ba,bg,aT,a7,bH,bJ,bq,bE,bA,bF,aY,bI,aZ,nmG,bB,aX,bd,bp,ifS,nxS,bD,mk,al,ar,am,aV,aW,oD,uD,bf,bh,cD,ah,ae,ak,bj,bi,bx,orB,bo,bz,orD,bC,aA,aB,aE,if_true,if_false,List.set_cons_zero,List.set_cons_succ,List.length_map,List.length_range,List.length_append,List.length_cons,List.length_nil,aw,aq,ai,aj,ao,au,aD,aF,aG,aH,aI,aJ,aK,aL,aM]
  try rfl)).trans ?_
 simp(disch:=omega) only[hw,hnm,hsp,hs,slD,atO,noO,iaD,itD,ay,aO,aN,aP,bn,ba,bg,aT,a7,bH,bJ,bq,bE,bA,bF,aY,bI,aZ,nmG,bB,aX,bd,bp,ifS,nxS,bD,mk,al,ar,am,aV,aW,oD,uD,bf,bh,cD,ah,ae,ak,bj,bi,bx,orB,bo,bz,orD,bC,aA,aB,aE,if_true,if_false,List.set_cons_zero,List.set_cons_succ,List.length_map,List.length_range,List.length_append,List.length_cons,List.length_nil,aw,aq,ai,aj,ao,au,aD,aF,aG,aH,aI,aJ,aK,aL,aM]
theorem oV{rs:List (Str×Int)}{x:Br×Int}{t:Bool}:∀{bs:List (Br×Int)} {w:List Bool} {a:Int},bs.length=w.length→(dB rs (bs++[x]) (w++[t]) a).map (fun x=>x.1.o)=(dB rs bs w a).map (fun x=>x.1.o)++if t=true then[x.1.o] else[]
 |[],[],a,_=>by
  show (((if t=true then[(x.1,a)] else[])++[]).map fun x:Br×Int=>x.1.o)=_
  cases t<;>rfl
 |y::r,u::w,a,h=>by
  have ih:=oV (rs:=rs) (x:=x) (t:=t) (bs:=r) (w:=w) (a:=a+jx rs y.1 u+y.2) (by simpa using h)
  show (((if u=true then[(y.1,a)] else[])++dB rs (r++[x]) (w++[t]) (a+jx rs y.1 u+y.2)).map fun x:Br×Int=>x.1.o)=(((if u=true then[(y.1,a)] else[])++dB rs r w (a+jx rs y.1 u+y.2)).map fun x:Br×Int=>x.1.o)++_
  rw[List.map_append,List.map_append,ih,List.append_assoc]
 |[],_::_,_,h=>by cases h
 |_::_,[],_,h=>by cases h
theorem qY{rs:List (Str×Int)}:∀{bs:List (Br×Int)} {w:List Bool} {a:Int} {x:Br×Int},x∈dB rs bs w a→∃y∈bs,y.1=x.1
 |y::r,u::w,a,x,h=>by
  have h:x∈(if u=true then[(y.1,a)] else[])++dB rs r w (a+jx rs y.1 u+y.2):=h
  rcases List.mem_append.mp h with h|h
  · split at h
    · rw[List.mem_singleton.mp h]
      exact⟨y,List.mem_cons_self,rfl⟩
    · cases h
  · obtain⟨z,hz,e⟩:=qY h
    exact⟨z,List.mem_cons_of_mem _ hz,e⟩
 |[],_,_,_,h=>by cases h
 |_::_,[],_,_,h=>by cases h
theorem qZ:∀{rs:List (List Wh)} {j:Nat} {q r:List Wh},rs[j]? =some q→rs[j+1]? =some r→(q++r).length≤rs.flatten.length
 |[],_,_,_,h,_=>by cases h
 |a::t,0,q,r,h1,h2=>by
  cases h1
  cases t with
  |nil=>cases h2
  |cons b t=>
   cases h2
   rw[List.flatten_cons,List.flatten_cons,←List.append_assoc,List.length_append (as:=_++_)]
   exact Nat.le_add_right _ _
 |a::t,j+1,q,r,h1,h2=>by
  have:=qZ (rs:=t) (j:=j) h1 h2
  rw[List.flatten_cons,List.length_append (as:=a)]
  omega
theorem q0{gs:List (Br×Int)}{us:List Wh}{caps:PD.Env}{fe:VF}(h:∀x:Br×Int,fe (some x.1.o::caps)=fH [x.1.o, .lst (us.map Wh.t)])(hn:0<us.length)(h8:us.length≤8):jv dR fe caps (gs.map fun x=>x.1.o)=some ((gs.map fun x=>jt us x.1).map .bl):=by
 rw[d6 (f:=fun x:Br×Int=>D.bl (jt us x.1)),List.map_map]
 · rfl
 · intro x _
   exact⟨rfl,by rw[h,v0 hn h8]⟩
theorem tH{gs:List (Br×Int)}{us:List Wh}:aa nK [.lst ((gs.map fun x=>jt us x.1).map .bl)]=some (.bl (fA gs us)):=by
 rw[az]
 show (blS _).map _=_
 rw[mz]
 show some (D.bl _)=_
 rw[List.all_map]
 rfl
theorem Sg.sub{gs:List (Br×Int)}{us ws:List Wh}(h:Sg gs ws)(hs:∀w∈us,w∈ws):Sg gs us:=fun w hw=>h w (hs w hw)
theorem Pt.mem{gs:List (Br×Int)}{us r:List Wh}{rs:List (List Wh)}(p:Pt gs us rs)(hr:r∈rs){w:Wh}(hw:w∈r):w∈us:=by
 rw[←p.fl]
 exact List.mem_flatten.mpr ⟨r,hr,hw⟩
theorem Pt.le{gs:List (Br×Int)}{us r:List Wh}{rs:List (List Wh)}(p:Pt gs us rs)(hr:r∈rs):r.length≤us.length:=by
 rw[←p.fl]
 obtain⟨a,b,rfl⟩:=List.append_of_mem hr
 simp
 omega
theorem Pt.two{gs:List (Br×Int)}{us q r:List Wh}{rs:List (List Wh)}{j:Nat}(p:Pt gs us rs)(ok:∀w∈us,w.Ok)(h1:rs[j]? =some q)(h2:rs[j+1]? =some r):fA gs (q++r)=false:=by
 cases r with
 |nil=>exact absurd rfl (p.ne _ (List.mem_of_getElem? h2))
 |cons w s=>
  have a:=p.ad j q w s h1 h2
  cases e:fA gs (q++w::s) with
  |false=>rfl
  |true=>
   have tk:(q++w::s).take (q++[w]).length=q++[w]:=by
    rw[show q++w::s=(q++[w])++s from by simp,List.take_left']
    rfl
   have:=tE (ws:=q++w::s) (fun x hx=>ok x (by
    rcases List.mem_append.mp hx with hx|hx
    · exact p.mem (List.mem_of_getElem? h1) hx
    · exact p.mem (List.mem_of_getElem? h2) hx)) (m:=(q++[w]).length) (by simp) (by simp) e
   rw[tk,a] at this
   cases this
theorem xH{n:Str}{s:Int}{rs:List (List Wh)}:((rs.map fun r=>Ct.mk n s r).map Ct.ws).flatten=rs.flatten:=by rw[List.map_map];exact congrArg _ (List.map_id _)
theorem AO{R:Rod}{nm:Nat→Str}(wf:R.WF nm){w:List Bool}(hw:Fit R.rounds R.bs w){n:Str}{s:Int}{ws:List Wh}(ok:∀w∈ws,w.Ok)(sg:Sg (dB R.rounds R.bs w R.first) ws)(h0:0<ws.length)(h8:ws.length≤8):gR [R.o,(Ct.mk n s ws).o, .tup (w.map .bl)]=some (.bl true):=by
 have n1:=wf.n1
 obtain⟨rs,p,hp⟩:=rW wf hw (n:=n) (s:=s) sg h8
 have wl:=pX hw
 have ll:=jM (rs:=R.rounds) (bs:=R.bs) (w:=w) (a:=R.first)
 have hpr:=fun(r:List Wh) (hs:Sg (dB R.rounds R.bs w R.first) r) (h:r.length≤8)=>rW wf hw (n:=n) (s:=s) hs h
 have rl:=rV p
 have hb:=lH wf
 obtain⟨r0,hr0⟩:∃r0,rs[0]? =some r0:=by
  cases rs with
  |nil=>have:=p.fl;simp at this;rw[this] at h0;cases h0
  |cons r t=>exact⟨r,rfl⟩
 have hj:=wa (cs:=rs.map fun r=>Ct.mk n s r) (c:=Ct.mk n s r0) (by rw[List.length_map];omega) (fun c hc=>by
  obtain⟨r,hr,rfl⟩:=List.mem_map.mp hc
  have:=p.le hr
  show r.length≤8
  omega) (by rw[List.getElem?_map,hr0];rfl)
 rw[xH,p.fl,List.map_map] at hj
 have hj:iD [ib n s rs]=some (Ct.mk n s ws).o:=hj
 have hci:=tG (n:=n) (s:=s) (ws:=ws) (by omega)
 have hcs:=fun(r:List Wh) (h:r.length<1000000)=>tG (n:=n) (s:=s) (ws:=r) h
 have hwh:aa (bU .wheels) (Ct.mk n s ws).o=some (.lst (ws.map Wh.t)):=nP
 have hnm:aa (bU .name) (Ct.mk n s ws).o=some (.str n):=v9
 have hsp:aa (bU .speed) (Ct.mk n s ws).o=some (.int s):=uk
 obtain⟨e',hloop,o5,o6,rfl⟩:=dA (g:=bB [5,6]) (b:=(ifS (bD (oD (aa ixD) (vD 2) (vD 5))) (bq 4 (mk Fm (vD 6))) nxS)) (ds:=hU (R.bs.map fun x=>x.1.o)) (env:=[some R.o,some (Ct.mk n s ws).o,some (.tup (w.map .bl)),some (ib n s rs),some (.lst []),none,none,none,none,none])
  (fun i e=>∃o5 o6,e=[some R.o,some (Ct.mk n s ws).o,some (.tup (w.map .bl)),some (ib n s rs),some (.lst ((dB R.rounds (R.bs.take i) (w.take i) R.first).map fun x=>x.1.o)),o5,o6,none,none,none]) ⟨none,none,rfl⟩ (by
   rintro i d e hd ⟨o5,o6,rfl⟩
   unfold hU at hd
   rw[List.getElem?_mapIdx,List.getElem?_map] at hd
   obtain⟨z,hz,rfl⟩:=Option.map_eq_some_iff.mp hd
   obtain⟨x,hx,rfl⟩:=Option.map_eq_some_iff.mp hz
   have hi:=(List.getElem?_eq_some_iff.mp hx).1
   obtain⟨t,ht⟩:∃t,w[i]? =some t:=⟨w[i],List.getElem?_eq_getElem (by omega)⟩
   refine⟨_,rfl, ?_⟩
   have hix:atI (w.map D.bl) (i:Int)=some (.bl t):=iH rfl (by rw[List.getElem?_map,ht];rfl)
   have l1:=jM (rs:=R.rounds) (bs:=R.bs.take i) (w:=w.take i) (a:=R.first)
   rw[List.length_take] at l1
   have hlen:((dB R.rounds (R.bs.take i) (w.take i) R.first).map fun x:Br×Int=>x.1.o).length<1000000:=by rw[List.length_map];omega
   refine⟨[some R.o,some (Ct.mk n s ws).o,some (.tup (w.map .bl)),some (ib n s rs),some (.lst ((dB R.rounds (R.bs.take (i+1)) (w.take (i+1)) R.first).map fun x=>x.1.o)),some (.int (i:Int)),some x.1.o,none,none,none], ?_,_,_,rfl⟩
   rw[List.take_add_one,List.take_add_one,hx,ht]
   show _=some (Out.nx [_,_,_,_,some (.lst ((dB R.rounds (R.bs.take i++[x]) (w.take i++[t]) R.first).map fun x=>x.1.o)),_,_,_,_,_])
   rw[oV (by rw[List.length_take,List.length_take];omega)]
   generalize ((dB R.rounds (R.bs.take i) (w.take i) R.first).map fun x:Br×Int=>x.1.o)=L at*
   generalize (Ct.mk n s ws).o=C at*
   generalize ib n s rs=RS at*
   generalize R.o=RO at*
   cases t with
   |true=>
    simp(disch:=omega) only[jY,hix,hlen,slD,atO,noO,iaD,itD,ay,aO,aN,aP,bn,ba,bg,aT,a7,bH,bJ,bq,bE,bA,bF,aY,bI,aZ,nmG,bB,aX,bd,bp,ifS,nxS,bD,mk,al,ar,am,aV,aW,oD,uD,bf,bh,cD,ah,ae,ak,bj,bi,bx,orB,bo,bz,orD,bC,aA,aB,aE,if_true,if_false,List.set_cons_zero,List.set_cons_succ,List.length_map,List.length_range,List.length_append,List.length_cons,List.length_nil,aw,aq,ai,aj,ao,au,aD,aF,aG,aH,aI,aJ,aK,aL,aM]
   |false=>
    simp(disch:=omega) only[jY,hix,Bool.false_eq_true,List.append_nil,slD,atO,noO,iaD,itD,ay,aO,aN,aP,bn,ba,bg,aT,a7,bH,bJ,bq,bE,bA,bF,aY,bI,aZ,nmG,bB,aX,bd,bp,ifS,nxS,bD,mk,al,ar,am,aV,aW,oD,uD,bf,bh,cD,ah,ae,ak,bj,bi,bx,orB,bo,bz,orD,bC,aA,aB,aE,if_true,if_false,List.set_cons_zero,List.set_cons_succ,List.length_map,List.length_range,List.length_append,List.length_cons,List.length_nil,aw,aq,ai,aj,ao,au,aD,aF,aG,aH,aI,aJ,aK,aL,aM]
   )
 have el:(hU (R.bs.map fun x=>x.1.o)).length=R.bs.length:=by unfold hU;rw[List.length_mapIdx,List.length_map]
 rw[el,List.take_of_length_le (Nat.le_refl _),List.take_of_length_le (by omega)] at hloop
 generalize dB R.rounds R.bs w R.first=gs at*
 obtain⟨e2,hloop2,p5,p7,p8,p9,rfl⟩:=dA (g:=bB [5,7]) (b:=lB2) (ds:=hU (rs.map fun r=>(Ct.mk n s r).o)) (env:=[some R.o,some (Ct.mk n s ws).o,some (.tup (w.map .bl)),some (ib n s rs),some (gO gs),o5,o6,none,none,none])
  (fun i e=>∃o5 o7 o8 o9,e=[some R.o,some (Ct.mk n s ws).o,some (.tup (w.map .bl)),some (ib n s rs),some (gO gs),o5,o6,o7,o8,o9]) ⟨o5,none,none,none,rfl⟩ (by
   rintro i d e hd ⟨p5,p7,p8,p9,rfl⟩
   unfold hU at hd
   rw[List.getElem?_mapIdx,List.getElem?_map] at hd
   obtain⟨z,hz,rfl⟩:=Option.map_eq_some_iff.mp hd
   obtain⟨r,hr,rfl⟩:=Option.map_eq_some_iff.mp hz
   have hi:=(List.getElem?_eq_some_iff.mp hr).1
   have hm:=List.mem_of_getElem? hr
   have rn:=p.ne r hm
   have r0:0<r.length:=List.length_pos_iff.mpr rn
   have r8:=p.le hm
   have rf:=p.ft r hm
   obtain⟨j,hj1,hj2,hj3⟩:∃j:Nat,(if(i:Int)-1>0 then(i:Int)-1 else 0)=(j:Int)∧j<rs.length∧(0<i→i=j+1):=by
    by_cases h:0<i
    · exact⟨i-1,by split<;>omega,by omega,by omega⟩
    · exact⟨0,by split<;>omega,by omega,by omega⟩
   obtain⟨q,hq⟩:∃q,rs[j]? =some q:=⟨rs[j],List.getElem?_eq_getElem hj2⟩
   have q8:=p.le (List.mem_of_getElem? hq)
   have hix:atI (rs.map fun r=>(Ct.mk n s r).o) (j:Int)=some (Ct.mk n s q).o:=iH rfl (by rw[List.getElem?_map,hq];rfl)
   have gq:aa (bU .wheels) (Ct.mk n s q).o=some (.lst (q.map Wh.t)):=nP
   have gr:aa (bU .wheels) (Ct.mk n s r).o=some (.lst (r.map Wh.t)):=nP
   have had:aa cF (.lst (q.map Wh.t)) (.lst (r.map Wh.t))=some (.lst ((q++r).map Wh.t)):=by
    rw[az]
    show (if _ then _ else _)=_
    rw[if_pos (by rw[List.length_map,List.length_map];omega),List.map_append]
   obtain⟨rs',p',hp'⟩:=hpr r (sg.sub fun w hw=>p.mem hm hw) (by omega)
   have:=p'.one (fun w hw=>ok w (p.mem hm hw)) rn rf
   subst this
   have hp':d5 [R.o,(Ct.mk n s r).o, .tup (w.map .bl)]=some (.lst [(Ct.mk n s r).o]):=hp'
   have hcr:=hcs r (by omega)
   have hc1:∀o5 o8 o9:Option D,bX (itD (vD 4)) dR (ah fH (ae (vD 0) (ae (uD (aa (bU .wheels)) (vD 1)) ak))) [7] [some R.o,some (Ct.mk n s ws).o,some (.tup (w.map .bl)),some (ib n s rs),some (gO gs),o5,o6,some (Ct.mk n s r).o,o8,o9]=some (.lst ((gs.map fun x=>jt r x.1).map .bl)):=fun o5 o8 o9=>by
    unfold bX
    simp only[itD,bf,bh,aA,gO,cN]
    rw[if_pos (by rw[List.length_map];omega)]
    show Option.map _ (jv dR _ [some (Ct.mk n s r).o] _)=_
    rw[q0 (us:=r) (fun x=>by simp only[ah,ae,ak,uD,bf,bh,aA,gr]) r0 (by omega)]
    rfl
   have ha1:=tH (gs:=gs) (us:=r)
   rw[rf] at ha1
   have hc2:0<i→∀o5 o9:Option D,bX (itD (vD 4)) dR (ah fH (ae (vD 0) (ae (vD 1) ak))) [8] [some R.o,some (Ct.mk n s ws).o,some (.tup (w.map .bl)),some (ib n s rs),some (gO gs),o5,o6,some (Ct.mk n s r).o,some (.lst ((q++r).map Wh.t)),o9]=some (.lst ((gs.map fun x=>jt (q++r) x.1).map .bl)):=fun h o5 o9=>by
    have:=hj3 h
    subst this
    have f2:=qZ hq hr
    rw[p.fl] at f2
    unfold bX
    simp only[itD,bf,bh,aA,gO,cN]
    rw[if_pos (by rw[List.length_map];omega)]
    show Option.map _ (jv dR _ [some (.lst ((q++r).map Wh.t))] _)=_
    rw[q0 (us:=q++r) (fun x=>by simp only[ah,ae,ak,bf,bh,aA]) (by rw[List.length_append];omega) (by omega)]
    rfl
   have ha2:0<i→aa nK [.lst ((gs.map fun x=>jt (q++r) x.1).map .bl)]=some (.bl false):=fun h=>by
    have:=hj3 h
    subst this
    rw[tH,p.two ok hq hr]
   refine⟨_,rfl, ?_⟩
   refine⟨[some R.o,some (Ct.mk n s ws).o,some (.tup (w.map .bl)),some (ib n s rs),some (gO gs),some (.int (i:Int)),o6,some (Ct.mk n s r).o,some (.lst ((q++r).map Wh.t)),some (.lst [(Ct.mk n s r).o])], ?_,_,_,_,_,rfl⟩
   have er:ib n s rs= .lst (rs.map fun r=>(Ct.mk n s r).o):=rfl
   rw[er] at hc1 hc2 ⊢
   generalize (rs.map fun r=>(Ct.mk n s r).o)=RS at*
   generalize ((gs.map fun x=>jt r x.1).map D.bl)=A1 at*
   generalize ((gs.map fun x=>jt (q++r) x.1).map D.bl)=A2 at*
   generalize ((q++r).map Wh.t)=QR at*
   generalize q.map Wh.t=Q1 at*
   generalize r.map Wh.t=R1 at*
   generalize gO gs=G at*
   generalize (Ct.mk n s ws).o=C at*
   generalize (Ct.mk n s r).o=C1 at*
   generalize (Ct.mk n s q).o=C2 at*
   generalize R.o=RO at*
   refine(bc (by
    simp(disch:=omega) only[hc1,ha1,Bool.not_true,Bool.false_eq_true,slD,atO,noO,iaD,itD,ay,aO,aN,aP,bn,ba,bg,aT,a7,bH,bJ,bq,bE,bA,bF,aY,bI,aZ,nmG,bB,aX,bd,bp,ifS,nxS,bD,mk,al,ar,am,aV,aW,oD,uD,bf,bh,cD,ah,ae,ak,bj,bi,bx,orB,bo,bz,orD,bC,aA,aB,aE,if_true,if_false,List.set_cons_zero,List.set_cons_succ,List.length_map,List.length_range,List.length_append,List.length_cons,List.length_nil,aw,aq,ai,aj,ao,au,aD,aF,aG,aH,aI,aJ,aK,aL,aM]
    try rfl)).trans ?_
   refine(bc (by
    simp(disch:=omega) only[kK,hj1,gS,hix,gq,gr,had,slD,atO,noO,iaD,itD,ay,aO,aN,aP,bn,ba,bg,aT,a7,bH,bJ,bq,bE,bA,bF,aY,bI,aZ,nmG,bB,aX,bd,bp,ifS,nxS,bD,mk,al,ar,am,aV,aW,oD,uD,bf,bh,cD,ah,ae,ak,bj,bi,bx,orB,bo,bz,orD,bC,aA,aB,aE,if_true,if_false,List.set_cons_zero,List.set_cons_succ,List.length_map,List.length_range,List.length_append,List.length_cons,List.length_nil,aw,aq,ai,aj,ao,au,aD,aF,aG,aH,aI,aJ,aK,aL,aM]
    try rfl)).trans ?_
   by_cases h:0<i
   · have hd:decide ((0:Int)<(i:Int))=true:=decide_eq_true (by omega)
     have hc2:=hc2 h
     have ha2:=ha2 h
     refine(bc (by
      simp(disch:=omega) only[hd,hc2,ha2,Bool.false_eq_true,slD,atO,noO,iaD,itD,ay,aO,aN,aP,bn,ba,bg,aT,a7,bH,bJ,bq,bE,bA,bF,aY,bI,aZ,nmG,bB,aX,bd,bp,ifS,nxS,bD,mk,al,ar,am,aV,aW,oD,uD,bf,bh,cD,ah,ae,ak,bj,bi,bx,orB,bo,bz,orD,bC,aA,aB,aE,if_true,if_false,List.set_cons_zero,List.set_cons_succ,List.length_map,List.length_range,List.length_append,List.length_cons,List.length_nil,aw,aq,ai,aj,ao,au,aD,aF,aG,aH,aI,aJ,aK,aL,aM]
      try rfl)).trans ?_
     refine(bc (by
      simp(disch:=omega) only[hp',slD,atO,noO,iaD,itD,ay,aO,aN,aP,bn,ba,bg,aT,a7,bH,bJ,bq,bE,bA,bF,aY,bI,aZ,nmG,bB,aX,bd,bp,ifS,nxS,bD,mk,al,ar,am,aV,aW,oD,uD,bf,bh,cD,ah,ae,ak,bj,bi,bx,orB,bo,bz,orD,bC,aA,aB,aE,if_true,if_false,List.set_cons_zero,List.set_cons_succ,List.length_map,List.length_range,List.length_append,List.length_cons,List.length_nil,aw,aq,ai,aj,ao,au,aD,aF,aG,aH,aI,aJ,aK,aL,aM]
      try rfl)).trans ?_
     refine(bc (by
      simp(disch:=omega) only[decide_true,Bool.not_true,Bool.false_eq_true,Int.natCast_add,Int.zero_add,Int.natCast_zero,Int.natCast_one,slD,atO,noO,iaD,itD,ay,aO,aN,aP,bn,ba,bg,aT,a7,bH,bJ,bq,bE,bA,bF,aY,bI,aZ,nmG,bB,aX,bd,bp,ifS,nxS,bD,mk,al,ar,am,aV,aW,oD,uD,bf,bh,cD,ah,ae,ak,bj,bi,bx,orB,bo,bz,orD,bC,aA,aB,aE,if_true,if_false,List.set_cons_zero,List.set_cons_succ,List.length_map,List.length_range,List.length_append,List.length_cons,List.length_nil,aw,aq,ai,aj,ao,au,aD,aF,aG,aH,aI,aJ,aK,aL,aM]
      try rfl)).trans ?_
     simp(disch:=omega) only[gS,ix0,hnm,hsp,gr,hcr,Bool.not_true,Bool.false_eq_true,slD,atO,noO,iaD,itD,ay,aO,aN,aP,bn,ba,bg,aT,a7,bH,bJ,bq,bE,bA,bF,aY,bI,aZ,nmG,bB,aX,bd,bp,ifS,nxS,bD,mk,al,ar,am,aV,aW,oD,uD,bf,bh,cD,ah,ae,ak,bj,bi,bx,orB,bo,bz,orD,bC,aA,aB,aE,if_true,if_false,List.set_cons_zero,List.set_cons_succ,List.length_map,List.length_range,List.length_append,List.length_cons,List.length_nil,aw,aq,ai,aj,ao,au,aD,aF,aG,aH,aI,aJ,aK,aL,aM]
   · have hd:decide ((0:Int)<(i:Int))=false:=decide_eq_false (by omega)
     refine(bc (by
      simp(disch:=omega) only[hd,Bool.false_eq_true,slD,atO,noO,iaD,itD,ay,aO,aN,aP,bn,ba,bg,aT,a7,bH,bJ,bq,bE,bA,bF,aY,bI,aZ,nmG,bB,aX,bd,bp,ifS,nxS,bD,mk,al,ar,am,aV,aW,oD,uD,bf,bh,cD,ah,ae,ak,bj,bi,bx,orB,bo,bz,orD,bC,aA,aB,aE,if_true,if_false,List.set_cons_zero,List.set_cons_succ,List.length_map,List.length_range,List.length_append,List.length_cons,List.length_nil,aw,aq,ai,aj,ao,au,aD,aF,aG,aH,aI,aJ,aK,aL,aM]
      try rfl)).trans ?_
     refine(bc (by
      simp(disch:=omega) only[hp',slD,atO,noO,iaD,itD,ay,aO,aN,aP,bn,ba,bg,aT,a7,bH,bJ,bq,bE,bA,bF,aY,bI,aZ,nmG,bB,aX,bd,bp,ifS,nxS,bD,mk,al,ar,am,aV,aW,oD,uD,bf,bh,cD,ah,ae,ak,bj,bi,bx,orB,bo,bz,orD,bC,aA,aB,aE,if_true,if_false,List.set_cons_zero,List.set_cons_succ,List.length_map,List.length_range,List.length_append,List.length_cons,List.length_nil,aw,aq,ai,aj,ao,au,aD,aF,aG,aH,aI,aJ,aK,aL,aM]
      try rfl)).trans ?_
     refine(bc (by
      simp(disch:=omega) only[decide_true,Bool.not_true,Bool.false_eq_true,Int.natCast_add,Int.zero_add,Int.natCast_zero,Int.natCast_one,slD,atO,noO,iaD,itD,ay,aO,aN,aP,bn,ba,bg,aT,a7,bH,bJ,bq,bE,bA,bF,aY,bI,aZ,nmG,bB,aX,bd,bp,ifS,nxS,bD,mk,al,ar,am,aV,aW,oD,uD,bf,bh,cD,ah,ae,ak,bj,bi,bx,orB,bo,bz,orD,bC,aA,aB,aE,if_true,if_false,List.set_cons_zero,List.set_cons_succ,List.length_map,List.length_range,List.length_append,List.length_cons,List.length_nil,aw,aq,ai,aj,ao,au,aD,aF,aG,aH,aI,aJ,aK,aL,aM]
      try rfl)).trans ?_
     simp(disch:=omega) only[gS,ix0,hnm,hsp,gr,hcr,Bool.not_true,Bool.false_eq_true,slD,atO,noO,iaD,itD,ay,aO,aN,aP,bn,ba,bg,aT,a7,bH,bJ,bq,bE,bA,bF,aY,bI,aZ,nmG,bB,aX,bd,bp,ifS,nxS,bD,mk,al,ar,am,aV,aW,oD,uD,bf,bh,cD,ah,ae,ak,bj,bi,bx,orB,bo,bz,orD,bC,aA,aB,aE,if_true,if_false,List.set_cons_zero,List.set_cons_succ,List.length_map,List.length_range,List.length_append,List.length_cons,List.length_nil,aw,aq,ai,aj,ao,au,aD,aF,aG,aH,aI,aJ,aK,aL,aM]
   )
 rw[gR,az]
 refine dO ?_
 show fV [some R.o,some (Ct.mk n s ws).o,some (.tup (w.map .bl)),none,none,none,none,none,none,none]=_
 unfold fV
 have er:ib n s rs= .lst (rs.map fun r=>(Ct.mk n s r).o):=rfl
 have hloop:fk _ _ _ _=some (Out.nx [some R.o,some (Ct.mk n s ws).o,some (.tup (w.map .bl)),some (ib n s rs),some (gO gs),o5,o6,none,none,none]):=hloop
 rw[er] at hp hj hloop hloop2
 generalize (rs.map fun r=>(Ct.mk n s r).o)=RS at*
 generalize gO gs=G at*
 generalize (Ct.mk n s ws).o=C at*
 generalize R.o=RO at*
 generalize (R.bs.map fun x=>x.1.o)=BS at*
 refine(bc (by
  simp(disch:=omega) only[hp,slD,atO,noO,iaD,itD,ay,aO,aN,aP,bn,ba,bg,aT,a7,bH,bJ,bq,bE,bA,bF,aY,bI,aZ,nmG,bB,aX,bd,bp,ifS,nxS,bD,mk,al,ar,am,aV,aW,oD,uD,bf,bh,cD,ah,ae,ak,bj,bi,bx,orB,bo,bz,orD,bC,aA,aB,aE,if_true,if_false,List.set_cons_zero,List.set_cons_succ,List.length_map,List.length_range,List.length_append,List.length_cons,List.length_nil,aw,aq,ai,aj,ao,au,aD,aF,aG,aH,aI,aJ,aK,aL,aM]
  try rfl)).trans ?_
 refine(bc (by
  simp(disch:=omega) only[hj,hnm,hsp,hwh,hci,Bool.not_true,Bool.false_eq_true,slD,atO,noO,iaD,itD,ay,aO,aN,aP,bn,ba,bg,aT,a7,bH,bJ,bq,bE,bA,bF,aY,bI,aZ,nmG,bB,aX,bd,bp,ifS,nxS,bD,mk,al,ar,am,aV,aW,oD,uD,bf,bh,cD,ah,ae,ak,bj,bi,bx,orB,bo,bz,orD,bC,aA,aB,aE,if_true,if_false,List.set_cons_zero,List.set_cons_succ,List.length_map,List.length_range,List.length_append,List.length_cons,List.length_nil,aw,aq,ai,aj,ao,au,aD,aF,aG,aH,aI,aJ,aK,aL,aM]
  try rfl)).trans ?_
 refine(bc (by
  simp(disch:=omega) only[hp,slD,atO,noO,iaD,itD,ay,aO,aN,aP,bn,ba,bg,aT,a7,bH,bJ,bq,bE,bA,bF,aY,bI,aZ,nmG,bB,aX,bd,bp,ifS,nxS,bD,mk,al,ar,am,aV,aW,oD,uD,bf,bh,cD,ah,ae,ak,bj,bi,bx,orB,bo,bz,orD,bC,aA,aB,aE,if_true,if_false,List.set_cons_zero,List.set_cons_succ,List.length_map,List.length_range,List.length_append,List.length_cons,List.length_nil,aw,aq,ai,aj,ao,au,aD,aF,aG,aH,aI,aJ,aK,aL,aM]
  try rfl)).trans ?_
 refine(bc (by
  simp(disch:=omega) only[hb,hloop,slD,atO,noO,iaD,itD,ay,aO,aN,aP,bn,ba,bg,aT,a7,bH,bJ,bq,bE,bA,bF,aY,bI,aZ,nmG,bB,aX,bd,bp,ifS,nxS,bD,mk,al,ar,am,aV,aW,oD,uD,bf,bh,cD,ah,ae,ak,bj,bi,bx,orB,bo,bz,orD,bC,aA,aB,aE,if_true,if_false,List.set_cons_zero,List.set_cons_succ,List.length_map,List.length_range,List.length_append,List.length_cons,List.length_nil,aw,aq,ai,aj,ao,au,aD,aF,aG,aH,aI,aJ,aK,aL,aM]
  try rfl)).trans ?_
 refine(bc (by
  simp(disch:=omega) only[hloop2,slD,atO,noO,iaD,itD,ay,aO,aN,aP,bn,ba,bg,aT,a7,bH,bJ,bq,bE,bA,bF,aY,bI,aZ,nmG,bB,aX,bd,bp,ifS,nxS,bD,mk,al,ar,am,aV,aW,oD,uD,bf,bh,cD,ah,ae,ak,bj,bi,bx,orB,bo,bz,orD,bC,aA,aB,aE,if_true,if_false,List.set_cons_zero,List.set_cons_succ,List.length_map,List.length_range,List.length_append,List.length_cons,List.length_nil,aw,aq,ai,aj,ao,au,aD,aF,aG,aH,aI,aJ,aK,aL,aM]
  try rfl)).trans ?_
 simp(disch:=omega) only[hp,slD,atO,noO,iaD,itD,ay,aO,aN,aP,bn,ba,bg,aT,a7,bH,bJ,bq,bE,bA,bF,aY,bI,aZ,nmG,bB,aX,bd,bp,ifS,nxS,bD,mk,al,ar,am,aV,aW,oD,uD,bf,bh,cD,ah,ae,ak,bj,bi,bx,orB,bo,bz,orD,bC,aA,aB,aE,if_true,if_false,List.set_cons_zero,List.set_cons_succ,List.length_map,List.length_range,List.length_append,List.length_cons,List.length_nil,aw,aq,ai,aj,ao,au,aD,aF,aG,aH,aI,aJ,aK,aL,aM]
theorem xI{xs:List D}:aa ji (.lst xs) none none=some (.lst xs):=by
 rw[az]
 show some (D.lst (kZ _ none none))=_
 unfold kZ
 rw[HT.sIx_none,HT.sIx_none,List.drop_zero,Nat.sub_zero,List.take_of_length_le (Nat.le_refl _)]
theorem wb{n:Str}{s:Int}{r:List Wh}(h:r.length<1000):jV (Ct.mk n s r).o=some (r.map Wh.t):=by
 have e:bU .wheels (Ct.mk n s r).o=some (.lst (r.map Wh.t)):=rfl
 unfold jV
 rw[e,aA]
 exact if_pos (by rw[List.length_map];exact h)
theorem wc{F f:VF}{ds:List D}{d:D}{env:PD.Env}{x y:Nat}(hF:F env=some (.lst ds))(hf:f []=some d)(hl:ds.length<1000)(hw:∀d∈ds,∃ws,jV d=some ws∧apL ds ws=true):lq x y F f env=some (.nx ((env.set x (some (.lst (ds.map bare)))).set y none)):=by
 unfold lq
 rw[hF,aA]
 show (f []).bind _=_
 rw[hf,aA,if_pos]
 refine⟨hl,List.all_eq_true.mpr fun d hd=> ?_⟩
 obtain⟨ws,e,h⟩:=hw d hd
 rw[e]
 exact h
theorem apart{n:Str}{s:Int}{rs:List (List Wh)}{r:List Wh}(h:rs≠[])(hr:r≠[]):apL (rs.map fun r=>(Ct.mk n s r).o) (r.map Wh.t)=true:=by
 cases rs with
 |nil=>exact absurd rfl h
 |cons a t=>
  cases r with
  |nil=>exact absurd rfl hr
  |cons w u=>
   show (ap1 (Ct.mk n s a).o w.t||_)=true
   rw[show ap1 (Ct.mk n s a).o w.t=true from rfl]
   rfl
theorem AQ{R:Rod}{nm:Nat→Str}(wf:R.WF nm){w:List Bool}(hw:Fit R.rounds R.bs w){s:Int}{ws:List Wh}(sg:Sg (dB R.rounds R.bs w R.first) ws)(h0:0<ws.length)(h8:ws.length≤8):fw [R.o,(Ct.mk (Str.ofString "load") s ws).o, .tup (w.map .bl), .lst (ws.map Wh.t)]=some (.bl true):=by
 generalize hn:Str.ofString "load"=n
 obtain⟨rs,p,hp⟩:=rW wf hw (n:=n) (s:=s) sg h8
 have rl:=rV p
 have rne:rs≠[]:=fun z=>by
  have:=p.fl
  rw[z] at this
  rw[←this] at h0
  cases h0
 have hci:=tG (n:=n) (s:=s) (ws:=ws) (by omega)
 have hsp:aa (bU .speed) (Ct.mk n s ws).o=some (.int s):=uk
 have gw:∀r:List Wh,aa (bU .wheels) (Ct.mk n s r).o=some (.lst (r.map Wh.t)):=fun r=>nP
 have hd1:bX (itD (ah d5 (ae (vD 0) (ae (vD 1) (ae (vD 2) ak))))) dR (slD (aa ji) (uD (aa (bU .wheels)) (vD 0)) noO noO) [] [some R.o,some (Ct.mk n s ws).o,some (.tup (w.map .bl)),some (.lst (ws.map Wh.t)),none,none,none]=some (.lst (rs.map fun r=> .lst (r.map Wh.t))):=by
  unfold bX
  simp only[itD,ah,ae,ak,bf,bh,aA,hp,ib,cN]
  rw[if_pos (by rw[List.length_map];omega),d6 (f:=fun r:List Wh=>D.lst (r.map Wh.t))]
  · rfl
  · intro r _
    refine⟨rfl, ?_⟩
    simp only[slD,noO,uD,bf,aA,gw,xI]
 have hd2:∀o4 o5:Option D,bX (itD (ah d5 (ae (vD 0) (ae (vD 1) (ae (vD 2) ak))))) dR (uD (aa (bU .wheels)) (vD 0)) [] [some R.o,some (Ct.mk n s ws).o,some (.tup (w.map .bl)),some (.lst (ws.map Wh.t)),o4,o5,none]=some (.lst (rs.map fun r=> .lst (r.map Wh.t))):=fun o4 o5=>by
  unfold bX
  simp only[itD,ah,ae,ak,bf,bh,aA,hp,ib,cN]
  rw[if_pos (by rw[List.length_map];omega),d6 (f:=fun r:List Wh=>D.lst (r.map Wh.t))]
  · rfl
  · intro r _
    refine⟨rfl, ?_⟩
    simp only[uD,bf,aA,gw]
 have g:Good 4 (.lst (rs.map fun r=> .lst (r.map Wh.t))):= .lst (fun x hx=>by
  obtain⟨r,hr,rfl⟩:=List.mem_map.mp hx
  have:=p.le hr
  exact qb (by omega)) (by rw[List.length_map];omega)
 have hs:=pW g
 have hsl:lq 5 6 (ah d5 (ae (vD 0) (ae (vD 1) (ae (vD 2) ak)))) (bj (ae (cD (.int 1)) (ae (cD (.int 0)) (ae (cD (.int 0)) ak)))) [some R.o,some (Ct.mk n s ws).o,some (.tup (w.map .bl)),some (.lst (ws.map Wh.t)),some (.lst (rs.map fun r=> .lst (r.map Wh.t))),none,none]=some (.nx [some R.o,some (Ct.mk n s ws).o,some (.tup (w.map .bl)),some (.lst (ws.map Wh.t)),some (.lst (rs.map fun r=> .lst (r.map Wh.t))),some (.lst ((rs.map fun r=>(Ct.mk n s r).o).map bare)),none]):=by
  refine wc (d:= .tup [.int 1, .int 0, .int 0]) (by simp only[ah,ae,ak,bf,bh,aA,hp];rfl) rfl (by rw[List.length_map];omega) fun d hd=> ?_
  obtain⟨r,hr,rfl⟩:=List.mem_map.mp hd
  have:=p.le hr
  exact⟨_,wb (by omega),apart rne (p.ne r hr)⟩
 rw[fw,az]
 refine dO ?_
 show eu [some R.o,some (Ct.mk n s ws).o,some (.tup (w.map .bl)),some (.lst (ws.map Wh.t)),none,none,none]=_
 unfold eu
 rw[hn]
 generalize ((rs.map fun r=>(Ct.mk n s r).o).map bare)=BR at*
 generalize (rs.map fun r=>D.lst (r.map Wh.t))=DU at*
 generalize (Ct.mk n s ws).o=C at*
 generalize R.o=RO at*
 generalize ws.map Wh.t=WS at*
 generalize F_law_same=S at*
 refine(bc (by
  simp(disch:=omega) only[hd1,slD,atO,noO,iaD,itD,ay,aO,aN,aP,bn,ba,bg,aT,a7,bH,bJ,bq,bE,bA,bF,aY,bI,aZ,nmG,bB,aX,bd,bp,ifS,nxS,bD,mk,al,ar,am,aV,aW,oD,uD,bf,bh,cD,ah,ae,ak,bj,bi,bx,orB,bo,bz,orD,bC,aA,aB,aE,if_true,if_false,List.set_cons_zero,List.set_cons_succ,List.length_map,List.length_range,List.length_append,List.length_cons,List.length_nil,aw,aq,ai,aj,ao,au,aD,aF,aG,aH,aI,aJ,aK,aL,aM]
  try rfl)).trans ?_
 refine(bc hsl).trans ?_
 refine(bc (by
  simp(disch:=omega) only[hsp,hci,Bool.not_true,Bool.false_eq_true,slD,atO,noO,iaD,itD,ay,aO,aN,aP,bn,ba,bg,aT,a7,bH,bJ,bq,bE,bA,bF,aY,bI,aZ,nmG,bB,aX,bd,bp,ifS,nxS,bD,mk,al,ar,am,aV,aW,oD,uD,bf,bh,cD,ah,ae,ak,bj,bi,bx,orB,bo,bz,orD,bC,aA,aB,aE,if_true,if_false,List.set_cons_zero,List.set_cons_succ,List.length_map,List.length_range,List.length_append,List.length_cons,List.length_nil,aw,aq,ai,aj,ao,au,aD,aF,aG,aH,aI,aJ,aK,aL,aM]
  try rfl)).trans ?_
 refine(bc (by
  simp(disch:=omega) only[hsp,slD,atO,noO,iaD,itD,ay,aO,aN,aP,bn,ba,bg,aT,a7,bH,bJ,bq,bE,bA,bF,aY,bI,aZ,nmG,bB,aX,bd,bp,ifS,nxS,bD,mk,al,ar,am,aV,aW,oD,uD,bf,bh,cD,ah,ae,ak,bj,bi,bx,orB,bo,bz,orD,bC,aA,aB,aE,if_true,if_false,List.set_cons_zero,List.set_cons_succ,List.length_map,List.length_range,List.length_append,List.length_cons,List.length_nil,aw,aq,ai,aj,ao,au,aD,aF,aG,aH,aI,aJ,aK,aL,aM]
  try rfl)).trans ?_
 simp(disch:=omega) only[hd2,hs,slD,atO,noO,iaD,itD,ay,aO,aN,aP,bn,ba,bg,aT,a7,bH,bJ,bq,bE,bA,bF,aY,bI,aZ,nmG,bB,aX,bd,bp,ifS,nxS,bD,mk,al,ar,am,aV,aW,oD,uD,bf,bh,cD,ah,ae,ak,bj,bi,bx,orB,bo,bz,orD,bC,aA,aB,aE,if_true,if_false,List.set_cons_zero,List.set_cons_succ,List.length_map,List.length_range,List.length_append,List.length_cons,List.length_nil,aw,aq,ai,aj,ao,au,aD,aF,aG,aH,aI,aJ,aK,aL,aM]
theorem we{ws:List Wh}(h0:0<ws.length)(ok:∀w∈ws,w.Ok):∃M,aa oA [.lst ((ws.map Wh.high).map .int)]=some (.int M)∧M≤1000000∧∀w∈ws,w.high≤M:=by
 cases ws with
 |nil=>cases h0
 |cons w r=>
  refine⟨mxL w.high (r.map Wh.high), ?_, ?_,fun x hx=> ?_⟩
  · rw[az]
    show (inS _).bind _=_
    rw[my]
    rfl
  · rcases List.mem_cons.mp (pZ (r.map Wh.high) w.high) with q|q
    · rw[q];exact(ok w List.mem_cons_self).u
    · obtain⟨y,hy,e⟩:=List.mem_map.mp q
      rw[←e]
      exact(ok y (List.mem_cons_of_mem _ hy)).u
  · rcases List.mem_cons.mp hx with rfl|hx
    · exact(nz _ _).1
    · exact(nz _ _).2 _ (List.mem_map_of_mem hx)
theorem wg{ws:List Wh}{f e:Nat}(hf:f<ws.length)(he:f<e):aa ji (.lst (ws.map Wh.t)) (some (f:Int)) (some (e:Int))=some (.lst ((seg ws f (min e ws.length)).map Wh.t)):=by
 rw[az]
 show some (D.lst (kZ _ (some (f:Int)) (some (e:Int))))=_
 unfold kZ seg
 rw[HT.sIx_nat,HT.sIx_nat,List.length_map,Nat.min_eq_left (show f≤ws.length by omega),List.map_take,List.map_drop]
theorem AR{c:Int}{ws:List Wh}{n:Str}(ok:∀w∈ws,w.Ok)(hn:0<ws.length)(h8:ws.length≤8):∃b:Br,h9 [.int c, .lst (ws.map Wh.t), .str n]=some b.t∧b.name=n∧0≤b.bears∧0≤b.most∧∀w∈ws,w.high≤b.bears∧w.high≤b.most:=by
 have hmix:=qP (c:=c) (o:=100) (p:=1000037) (by decide) (by decide) (by decide) (by decide)
 have d0:=mB c 100 1000037
 generalize qO c 100 1000037=dr at hmix d0
 obtain⟨f,ef,f1⟩:∃f:Nat,dr/5%(ws.length:Int)=(f:Int)∧f<ws.length:=by
  have h0:0≤dr/5%(ws.length:Int):=Int.emod_nonneg _ (by omega)
  have h1:dr/5%(ws.length:Int)<(ws.length:Int):=Int.emod_lt_of_pos _ (by omega)
  exact⟨(dr/5%(ws.length:Int)).toNat,by omega,by omega⟩
 obtain⟨e,ee,e1⟩:∃e:Nat,(f:Int)+1+dr/40%4=(e:Int)∧f<e:=⟨((f:Int)+1+dr/40%4).toNat,by omega,by omega⟩
 have hcut:=wg f1 e1
 have sl:=p6 (ws:=ws) (f:=f) (e:=min e ws.length) (by omega)
 have sok:∀w∈seg ws f (min e ws.length),w.Ok:=fun w hw=>ok w (xC hw)
 obtain⟨l,_,hl⟩:=kL (xs:=[1,1000,1+dr/300%200,1+dr/300%60,1+dr/300%220]) (i:=dr%5) (Int.emod_nonneg _ (by decide)) (Int.emod_lt_of_pos _ (by decide))
 have hl:atI [D.int 1, .int 1000, .int (1+dr/300%200), .int (1+dr/300%60), .int (1+dr/300%220)] (dr%5)=some (.int l):=hl
 obtain⟨wd,_,hwd⟩:=kL (xs:=[1,200,1+dr/300%60,200]) (i:=dr/70000%4) (Int.emod_nonneg _ (by decide)) (Int.emod_lt_of_pos _ (by decide))
 have hwd:atI [D.int 1, .int 200, .int (1+dr/300%60), .int 200] (dr/70000%4)=some (.int wd):=hwd
 obtain⟨M,hM,M1,M2⟩:=we hn ok
 have c1:=tz (ws:=seg ws f (min e ws.length)) (W:=l) sok (by omega) (by omega)
 have c2:=tz (ws:=seg ws f (min e ws.length)) (W:=wd) sok (by omega) (by omega)
 generalize jW (seg ws f (min e ws.length)) l=H1 at c1
 generalize jW (seg ws f (min e ws.length)) wd=H2 at c2
 obtain⟨sn,hsn,sn1,sn2,sn3⟩:∃sn:Int,(if M>1 then M else 1)=sn∧M≤sn∧1≤sn∧sn≤1000000:=⟨_,rfl,by split<;>omega,by split<;>omega,by split<;>omega⟩
 obtain⟨q1,hq1,q1a⟩:∃q:Int,(if(if H1>sn then H1 else sn)<10000000 then(if H1>sn then H1 else sn) else 10000000)=q∧sn≤q:=⟨_,rfl,by split<;>split<;>omega⟩
 obtain⟨q2,hq2,q2a⟩:∃q:Int,(if(if H2>sn then H2 else sn)+dr/9%3<10000000 then(if H2>sn then H2 else sn)+dr/9%3 else 10000000)=q∧sn≤q:=⟨_,rfl,by split<;>split<;>omega⟩
 refine⟨⟨n,l,q1,wd,q2⟩, ?_,rfl,by show 0≤q1;omega,by show 0≤q2;omega,fun w hw=>⟨by have:=M2 w hw;show w.high≤q1;omega,by have:=M2 w hw;show w.high≤q2;omega⟩⟩
 have hln:aa fW [.lst (ws.map Wh.t)]=some (.int (ws.length:Int)):=by rw[aN,List.length_map]
 have hwp:(0:Int)<(ws.length:Int):=by omega
 have hcm:∀o4 o5 o6 o7 o8 o9 o10:Option D,bX (itD (vD 1)) dR (oD (aa ixD) (vD 0) (cD (.int 2))) [] [some (.int c),some (.lst (ws.map Wh.t)),some (.str n),some (.int dr),o4,o5,o6,o7,o8,o9,o10]=some (.lst ((ws.map Wh.high).map .int)):=fun o4 o5 o6 o7 o8 o9 o10=>by
  unfold bX
  simp only[itD,bf,bh,aA,cN]
  rw[if_pos (by rw[List.length_map];omega),nA (env:=[]) fun w=>wh2]
  rfl
 rw[h9,az]
 refine dO ?_
 show eZ [some (.int c),some (.lst (ws.map Wh.t)),some (.str n),none,none,none,none,none,none,none,none]=_
 unfold eZ
 generalize (seg ws f (min e ws.length)).map Wh.t=SG at*
 generalize (ws.map Wh.high).map D.int=HI at*
 generalize (ws.length:Int)=WL at*
 generalize ws.map Wh.t=WS at*
 refine(bc (by
  simp(disch:=omega) only[hmix,slD,atO,noO,iaD,itD,ay,aO,aN,aP,bn,ba,bg,aT,a7,bH,bJ,bq,bE,bA,bF,aY,bI,aZ,nmG,bB,aX,bd,bp,ifS,nxS,bD,mk,al,ar,am,aV,aW,oD,uD,bf,bh,cD,ah,ae,ak,bj,bi,bx,orB,bo,bz,orD,bC,aA,aB,aE,if_true,if_false,List.set_cons_zero,List.set_cons_succ,List.length_map,List.length_range,List.length_append,List.length_cons,List.length_nil,aw,aq,ai,aj,ao,au,aD,aF,aG,aH,aI,aJ,aK,aL,aM]
  try rfl)).trans ?_
 refine(bc (by
  simp(disch:=omega) only[hln,ef,slD,atO,noO,iaD,itD,ay,aO,aN,aP,bn,ba,bg,aT,a7,bH,bJ,bq,bE,bA,bF,aY,bI,aZ,nmG,bB,aX,bd,bp,ifS,nxS,bD,mk,al,ar,am,aV,aW,oD,uD,bf,bh,cD,ah,ae,ak,bj,bi,bx,orB,bo,bz,orD,bC,aA,aB,aE,if_true,if_false,List.set_cons_zero,List.set_cons_succ,List.length_map,List.length_range,List.length_append,List.length_cons,List.length_nil,aw,aq,ai,aj,ao,au,aD,aF,aG,aH,aI,aJ,aK,aL,aM]
  try rfl)).trans ?_
 refine(bc (by
  simp(disch:=omega) only[ee,hcut,slD,atO,noO,iaD,itD,ay,aO,aN,aP,bn,ba,bg,aT,a7,bH,bJ,bq,bE,bA,bF,aY,bI,aZ,nmG,bB,aX,bd,bp,ifS,nxS,bD,mk,al,ar,am,aV,aW,oD,uD,bf,bh,cD,ah,ae,ak,bj,bi,bx,orB,bo,bz,orD,bC,aA,aB,aE,if_true,if_false,List.set_cons_zero,List.set_cons_succ,List.length_map,List.length_range,List.length_append,List.length_cons,List.length_nil,aw,aq,ai,aj,ao,au,aD,aF,aG,aH,aI,aJ,aK,aL,aM]
  try rfl)).trans ?_
 refine(bc (by
  simp(disch:=omega) only[gS,hl,slD,atO,noO,iaD,itD,ay,aO,aN,aP,bn,ba,bg,aT,a7,bH,bJ,bq,bE,bA,bF,aY,bI,aZ,nmG,bB,aX,bd,bp,ifS,nxS,bD,mk,al,ar,am,aV,aW,oD,uD,bf,bh,cD,ah,ae,ak,bj,bi,bx,orB,bo,bz,orD,bC,aA,aB,aE,if_true,if_false,List.set_cons_zero,List.set_cons_succ,List.length_map,List.length_range,List.length_append,List.length_cons,List.length_nil,aw,aq,ai,aj,ao,au,aD,aF,aG,aH,aI,aJ,aK,aL,aM]
  try rfl)).trans ?_
 refine(bc (by
  simp(disch:=omega) only[gS,hwd,slD,atO,noO,iaD,itD,ay,aO,aN,aP,bn,ba,bg,aT,a7,bH,bJ,bq,bE,bA,bF,aY,bI,aZ,nmG,bB,aX,bd,bp,ifS,nxS,bD,mk,al,ar,am,aV,aW,oD,uD,bf,bh,cD,ah,ae,ak,bj,bi,bx,orB,bo,bz,orD,bC,aA,aB,aE,if_true,if_false,List.set_cons_zero,List.set_cons_succ,List.length_map,List.length_range,List.length_append,List.length_cons,List.length_nil,aw,aq,ai,aj,ao,au,aD,aF,aG,aH,aI,aJ,aK,aL,aM]
  try rfl)).trans ?_
 refine(bc (by
  simp(disch:=omega) only[hcm,hM,kK,hsn,slD,atO,noO,iaD,itD,ay,aO,aN,aP,bn,ba,bg,aT,a7,bH,bJ,bq,bE,bA,bF,aY,bI,aZ,nmG,bB,aX,bd,bp,ifS,nxS,bD,mk,al,ar,am,aV,aW,oD,uD,bf,bh,cD,ah,ae,ak,bj,bi,bx,orB,bo,bz,orD,bC,aA,aB,aE,if_true,if_false,List.set_cons_zero,List.set_cons_succ,List.length_map,List.length_range,List.length_append,List.length_cons,List.length_nil,aw,aq,ai,aj,ao,au,aD,aF,aG,aH,aI,aJ,aK,aL,aM]
  try rfl)).trans ?_
 refine(bc (by
  simp(disch:=omega) only[c1,kK,slD,atO,noO,iaD,itD,ay,aO,aN,aP,bn,ba,bg,aT,a7,bH,bJ,bq,bE,bA,bF,aY,bI,aZ,nmG,bB,aX,bd,bp,ifS,nxS,bD,mk,al,ar,am,aV,aW,oD,uD,bf,bh,cD,ah,ae,ak,bj,bi,bx,orB,bo,bz,orD,bC,aA,aB,aE,if_true,if_false,List.set_cons_zero,List.set_cons_succ,List.length_map,List.length_range,List.length_append,List.length_cons,List.length_nil,aw,aq,ai,aj,ao,au,aD,aF,aG,aH,aI,aJ,aK,aL,aM]
  try rfl)).trans ?_
 refine(bc (by
  simp(disch:=omega) only[c2,kK,slD,atO,noO,iaD,itD,ay,aO,aN,aP,bn,ba,bg,aT,a7,bH,bJ,bq,bE,bA,bF,aY,bI,aZ,nmG,bB,aX,bd,bp,ifS,nxS,bD,mk,al,ar,am,aV,aW,oD,uD,bf,bh,cD,ah,ae,ak,bj,bi,bx,orB,bo,bz,orD,bC,aA,aB,aE,if_true,if_false,List.set_cons_zero,List.set_cons_succ,List.length_map,List.length_range,List.length_append,List.length_cons,List.length_nil,aw,aq,ai,aj,ao,au,aD,aF,aG,aH,aI,aJ,aK,aL,aM]
  try rfl)).trans ?_
 simp(disch:=omega) only[pY,hq1,hq2,Br.t,slD,atO,noO,iaD,itD,ay,aO,aN,aP,bn,ba,bg,aT,a7,bH,bJ,bq,bE,bA,bF,aY,bI,aZ,nmG,bB,aX,bd,bp,ifS,nxS,bD,mk,al,ar,am,aV,aW,oD,uD,bf,bh,cD,ah,ae,ak,bj,bi,bx,orB,bo,bz,orD,bC,aA,aB,aE,if_true,if_false,List.set_cons_zero,List.set_cons_succ,List.length_map,List.length_range,List.length_append,List.length_cons,List.length_nil,aw,aq,ai,aj,ao,au,aD,aF,aG,aH,aI,aJ,aK,aL,aM]
def nmK(k:Nat):Str:=⟨#[120+k]⟩
theorem A8{k:Nat}(h:k<3):aa ixD (.str (Str.ofString "xyz")) (.int (k:Int))=some (.str (nmK k)):=by
 have all:∀k:Nat,k<3→(Str.ofString "xyz").cps.toList[k]? =some (120+k):=by boot_fact
 have q:=iH (i:=(k:Int)) (n:=k) rfl (all k h)
 have e:aa ixD (.str (Str.ofString "xyz")) (.int (k:Int))=if(Str.ofString "xyz").length≤1000000 then(atI (Str.ofString "xyz").cps.toList (k:Int)).map fun c=>D.str ⟨#[c]⟩ else none:=by rw[az];rfl
 rw[e,if_pos (by boot_fact),q]
 rfl
theorem A9{k:Nat}(h:k<5):∃z,aa ixD (.str (Str.ofString "abcde")) (.int (k:Int))=some (.str z):=by
 have all:∀k:Nat,k<5→(Str.ofString "abcde").cps.toList[k]? =some (97+k):=by boot_fact
 have q:=iH (i:=(k:Int)) (n:=k) rfl (all k h)
 have e:aa ixD (.str (Str.ofString "abcde")) (.int (k:Int))=if(Str.ofString "abcde").length≤1000000 then(atI (Str.ofString "abcde").cps.toList (k:Int)).map fun c=>D.str ⟨#[c]⟩ else none:=by rw[az];rfl
 rw[e,if_pos (by boot_fact),q]
 exact⟨_,rfl⟩
theorem AS{xs:List Int}{d:D}(hd:d= .lst (xs.map D.int)∨d= .fz (xs.map D.int)){k:Nat}(hk:k<5):∃c:Ct,eL [d, .int (k:Int)]=some c.o∧c.ws.length≤8:=by
 have hc:=rS hd (4+k)
 rw[Int.natCast_add] at hc
 have hc:dX [d, .int (4+(k:Int))]=some (.int (jw xs (4+k))):=hc
 generalize hone:jw xs (4+k)+65537*(k:Int)=one
 obtain⟨z,hz⟩:=A9 hk
 have hm:=qP (c:=one) (o:=106) (p:=1000033) (by decide) (by decide) (by decide) (by decide)
 have d0:=mB one 106 1000033
 generalize qO one 106 1000033=dr at hm d0
 obtain⟨m,em,m3⟩:∃m:Nat,1+dr%3=(m:Int)∧m≤8:=⟨(1+dr%3).toNat,by omega,by omega⟩
 obtain⟨ws,wl,ok,hws⟩:=oR (c:=one) m3
 have hI:=qa (n:=z) (s:=1+one%12) (ws:=ws)
 refine⟨⟨z,1+one%12,ws⟩, ?_,by show ws.length≤8;omega⟩
 rw[eL,az]
 refine dO ?_
 show fR [some d,some (.int (k:Int)),none]=_
 unfold fR
 generalize hX:ws.map Wh.t=X at*
 have hO:(Ct.mk z (1+one%12) ws).o= .ob .Cart [(.name, .str z),(.speed, .int (1+one%12)),(.wheels, .lst X)]:=by rw[←hX];rfl
 rw[hO]
 refine(bc (by
  simp(disch:=omega) only[hc,hone,slD,atO,noO,iaD,itD,ay,aO,aN,aP,bn,ba,bg,aT,a7,bH,bJ,bq,bE,bA,bF,aY,bI,aZ,nmG,bB,aX,bd,bp,ifS,nxS,bD,mk,al,ar,am,aV,aW,oD,uD,bf,bh,cD,ah,ae,ak,bj,bi,bx,orB,bo,bz,orD,bC,aA,aB,aE,if_true,if_false,List.set_cons_zero,List.set_cons_succ,List.length_map,List.length_range,List.length_append,List.length_cons,List.length_nil,aw,aq,ai,aj,ao,au,aD,aF,aG,aH,aI,aJ,aK,aL,aM]
  try rfl)).trans ?_
 simp(disch:=omega) only[hz,hm,em,hws,fo,hI,Option.map_some,slD,atO,noO,iaD,itD,ay,aO,aN,aP,bn,ba,bg,aT,a7,bH,bJ,bq,bE,bA,bF,aY,bI,aZ,nmG,bB,aX,bd,bp,ifS,nxS,bD,mk,al,ar,am,aV,aW,oD,uD,bf,bh,cD,ah,ae,ak,bj,bi,bx,orB,bo,bz,orD,bC,aA,aB,aE,if_true,if_false,List.set_cons_zero,List.set_cons_succ,List.length_map,List.length_range,List.length_append,List.length_cons,List.length_nil,aw,aq,ai,aj,ao,au,aD,aF,aG,aH,aI,aJ,aK,aL,aM]
theorem um{F f:VF}{fc:BF}{ws:List D}{d z:D}{env:PD.Env}{x:Nat}(hF:F env=some d)(hw:jV d=some ws)(hf:f []=some z)(hc:fc (env.set x (some d))=some false):m9 x F fc f env=some (.nx (env.set x none)):=by
 unfold m9
 rw[hF,aA,hw,aA,hf,aA,hc,aA]
 rfl
theorem q5:∀us:List Ct,(∀c∈us,c.ws.length≤8)→((us.map Ct.ws).flatten).length≤8*us.length:=fun us=>by
 induction us with
 |nil=>exact fun _=>Nat.le_refl _
 |cons u us ih=>
  intro h
  rw[List.map_cons,List.flatten_cons,List.length_append,List.length_cons]
  have:=ih fun c hc=>h c (List.mem_cons_of_mem _ hc)
  have:=h u List.mem_cons_self
  omega
theorem wj(xs:List Int)(hx:xs.length≤63)(d:D)(hd:d= .lst (xs.map D.int)∨d= .fz (xs.map D.int)):sZ [d]=some (.bl true):=by
 have hl:aa fW [d]=some (.int xs.length):=by rw[az];rcases hd with rfl|rfl<;>simp[fW,oq]
 have hc0:=rS hd 0
 have hc0:dX [d, .int 0]=some (.int (jw xs 0)):=hc0
 have hcs:=fun k=>rS hd k
 generalize hq:jw xs 0+(xs.length:Int)=c0
 have hmix:=qP (c:=c0) (o:=101) (p:=1000039) (by decide) (by decide) (by decide) (by decide)
 have d0:=mB c0 101 1000039
 generalize qO c0 101 1000039=dr at hmix d0
 obtain⟨n,en,n0,n8⟩:∃n:Nat,1+dr%8=(n:Int)∧0<n∧n≤8:=⟨(1+dr%8).toNat,by omega,by omega,by omega⟩
 obtain⟨ws,wl,ok,hws⟩:=oR (c:=c0) n8
 subst wl
 obtain⟨b,eb,b0,b4⟩:∃b:Nat,1+dr/8%3=(b:Int)∧0<b∧b≤3:=⟨(1+dr/8%3).toNat,by omega,by omega,by omega⟩
 obtain⟨m,em,m0,m5⟩:∃m:Nat,1+dr/24%5=(m:Int)∧0<m∧m≤5:=⟨(1+dr/24%5).toNat,by omega,by omega,by omega⟩
 have hrn:∀b:Nat,b<1000→aa iL [.int (b:Int)]=some ((List.range b).map fun(i:Nat)=>D.int (0+(i:Int))):=fun b hb=>by
  have:=mC (j:=(b:Int)) (by omega)
  rw[Int.toNat_natCast] at this
  exact this
 have hrb:=hrn b (by omega)
 have hrm:=hrn m (by omega)
 obtain⟨e',hloop,bs,rs,o6,o7,rfl,bl,rl,br,bw⟩:=dA (g:=nmG 6) (b:=lB3) (ds:=(List.range b).map fun(i:Nat)=>D.int (0+(i:Int))) (env:=[some d,some (.int c0),some (.int dr),some (.lst (ws.map Wh.t)),some (.lst [opT 200]),some (.lst []),none,none,none,none,none,none,none,none])
  (fun i e=>∃(bs:List (Br×Int)) (rs:List (Str×Int)) (o6 o7:Option D),e=[some d,some (.int c0),some (.int dr),some (.lst (ws.map Wh.t)),some (.lst ((Pc.op 200::bsP bs).map Pc.t)),some (.lst (rs.map rdT)),o6,o7,none,none,none,none,none,none]∧bs.length=i∧rs.length≤i∧(∀(j:Nat) (x:Br) (o:Int),bs[j]? =some (x,o)→x.name=nmK j)∧∀y∈bs,0≤y.1.bears∧0≤y.1.most∧∀w∈ws,w.high≤y.1.bears∧w.high≤y.1.most)
  ⟨[],[],none,none,rfl,rfl,Nat.le_refl _,fun j x o h=>(by cases h),fun y h=>(by cases h)⟩ (by
    rintro i dd e hdd ⟨bs,rs,o6,o7,rfl,bl,rl,br,bw⟩
    rw[List.getElem?_map] at hdd
    obtain⟨k,hk,rfl⟩:=Option.map_eq_some_iff.mp hdd
    obtain⟨hk8,hk⟩:=List.getElem?_eq_some_iff.mp hk
    rw[List.getElem_range] at hk
    subst hk
    have hi:i<b:=by simpa using hk8
    refine⟨_,rfl, ?_⟩
    have hc:=hcs (1+i)
    rw[Int.natCast_add] at hc
    have hc:dX [d, .int (1+(i:Int))]=some (.int (jw xs (1+i))):=hc
    generalize hone:jw xs (1+i)+65537*(i:Int)=one
    have l3:=A8 (k:=i) (by omega)
    obtain⟨bb,hbb,hbn,hb1,hb2,hb3⟩:=AR (c:=one) (n:=nmK i) ok n0 (by omega)
    have hm2:=qP (c:=one) (o:=102) (p:=1000081) (by decide) (by decide) (by decide) (by decide)
    generalize qO one 102 1000081=dm at hm2
    have hcat:aa cF (.lst ((Pc.op 200::bsP bs).map Pc.t)) (.lst [bb.t, .tup [.str (Str.ofString "open"), .int 300]])=some (.lst ((Pc.op 200::bsP (bs++[(bb,300)])).map Pc.t)):=by
     rw[az]
     show (if _ then _ else _)=_
     rw[if_pos (by rw[List.length_map,List.length_cons,mD];simp;omega),s0]
     show some (D.lst _)=_
     rw[←List.cons_append,List.map_append]
     rfl
    have hlr:rs.length<1000000:=by omega
    have brn:∀(j:Nat) (x:Br) (o:Int),(bs++[(bb,300)])[j]? =some (x,o)→x.name=nmK j:=fun j x o h=>by
     by_cases hj:j<bs.length
     · rw[List.getElem?_append_left hj] at h
       exact br j x o h
     · rw[List.getElem?_append_right (by omega)] at h
       have:j-bs.length=0:=by
        have:=(List.getElem?_eq_some_iff.mp h).1
        simp at this
        omega
       rw[this] at h
       cases h
       rw[hbn,show j=i from by omega]
    have bwn:∀y∈bs++[(bb,(300:Int))],0≤y.1.bears∧0≤y.1.most∧∀w∈ws,w.high≤y.1.bears∧w.high≤y.1.most:=fun y hy=>by
     rcases List.mem_append.mp hy with hy|hy
     · exact bw y hy
     · rw[List.mem_singleton.mp hy]
       exact⟨hb1,hb2,hb3⟩
    have hl2:(bs++[(bb,(300:Int))]).length=i+1:=by rw[List.length_append,List.length_singleton,bl]
    by_cases hg:dm%3=0
    · refine⟨[some d,some (.int c0),some (.int dr),some (.lst (ws.map Wh.t)),some (.lst ((Pc.op 200::bsP (bs++[(bb,300)])).map Pc.t)),some (.lst ((rs++[(nmK i,77)]).map rdT)),some (.int (i:Int)),some (.int one),none,none,none,none,none,none], ?_,bs++[(bb,300)],rs++[(nmK i,77)],_,_,rfl,hl2,by rw[List.length_append,List.length_singleton];omega,brn,bwn⟩
      have er:(rs++[(nmK i,(77:Int))]).map rdT=rs.map rdT++[rdT (nmK i,77)]:=by rw[List.map_append];rfl
      rw[er]
      generalize (Pc.op 200::bsP (bs++[(bb,300)])).map Pc.t=PP at hcat
      generalize (Pc.op 200::bsP bs).map Pc.t=P0 at hcat
      refine(bc (by
       simp(disch:=omega) only[Int.zero_add,hc,hone,slD,atO,noO,iaD,itD,ay,aO,aN,aP,bn,ba,bg,aT,a7,bH,bJ,bq,bE,bA,bF,aY,bI,aZ,nmG,bB,aX,bd,bp,ifS,nxS,bD,mk,al,ar,am,aV,aW,oD,uD,bf,bh,cD,ah,ae,ak,bj,bi,bx,orB,bo,bz,orD,bC,aA,aB,aE,if_true,if_false,List.set_cons_zero,List.set_cons_succ,List.length_map,List.length_range,List.length_append,List.length_cons,List.length_nil,aw,aq,ai,aj,ao,au,aD,aF,aG,aH,aI,aJ,aK,aL,aM]
       try rfl)).trans ?_
      refine(bc (by
       simp(disch:=omega) only[l3,hbb,hcat,slD,atO,noO,iaD,itD,ay,aO,aN,aP,bn,ba,bg,aT,a7,bH,bJ,bq,bE,bA,bF,aY,bI,aZ,nmG,bB,aX,bd,bp,ifS,nxS,bD,mk,al,ar,am,aV,aW,oD,uD,bf,bh,cD,ah,ae,ak,bj,bi,bx,orB,bo,bz,orD,bC,aA,aB,aE,if_true,if_false,List.set_cons_zero,List.set_cons_succ,List.length_map,List.length_range,List.length_append,List.length_cons,List.length_nil,aw,aq,ai,aj,ao,au,aD,aF,aG,aH,aI,aJ,aK,aL,aM]
       try rfl)).trans ?_
      simp(disch:=omega) only[hm2,decide_eq_true hg,l3,hlr,rdT,slD,atO,noO,iaD,itD,ay,aO,aN,aP,bn,ba,bg,aT,a7,bH,bJ,bq,bE,bA,bF,aY,bI,aZ,nmG,bB,aX,bd,bp,ifS,nxS,bD,mk,al,ar,am,aV,aW,oD,uD,bf,bh,cD,ah,ae,ak,bj,bi,bx,orB,bo,bz,orD,bC,aA,aB,aE,if_true,if_false,List.set_cons_zero,List.set_cons_succ,List.length_map,List.length_range,List.length_append,List.length_cons,List.length_nil,aw,aq,ai,aj,ao,au,aD,aF,aG,aH,aI,aJ,aK,aL,aM]
    · refine⟨[some d,some (.int c0),some (.int dr),some (.lst (ws.map Wh.t)),some (.lst ((Pc.op 200::bsP (bs++[(bb,300)])).map Pc.t)),some (.lst (rs.map rdT)),some (.int (i:Int)),some (.int one),none,none,none,none,none,none], ?_,bs++[(bb,300)],rs,_,_,rfl,hl2,by omega,brn,bwn⟩
      generalize (Pc.op 200::bsP (bs++[(bb,300)])).map Pc.t=PP at hcat
      generalize (Pc.op 200::bsP bs).map Pc.t=P0 at hcat
      refine(bc (by
       simp(disch:=omega) only[Int.zero_add,hc,hone,slD,atO,noO,iaD,itD,ay,aO,aN,aP,bn,ba,bg,aT,a7,bH,bJ,bq,bE,bA,bF,aY,bI,aZ,nmG,bB,aX,bd,bp,ifS,nxS,bD,mk,al,ar,am,aV,aW,oD,uD,bf,bh,cD,ah,ae,ak,bj,bi,bx,orB,bo,bz,orD,bC,aA,aB,aE,if_true,if_false,List.set_cons_zero,List.set_cons_succ,List.length_map,List.length_range,List.length_append,List.length_cons,List.length_nil,aw,aq,ai,aj,ao,au,aD,aF,aG,aH,aI,aJ,aK,aL,aM]
       try rfl)).trans ?_
      refine(bc (by
       simp(disch:=omega) only[l3,hbb,hcat,slD,atO,noO,iaD,itD,ay,aO,aN,aP,bn,ba,bg,aT,a7,bH,bJ,bq,bE,bA,bF,aY,bI,aZ,nmG,bB,aX,bd,bp,ifS,nxS,bD,mk,al,ar,am,aV,aW,oD,uD,bf,bh,cD,ah,ae,ak,bj,bi,bx,orB,bo,bz,orD,bC,aA,aB,aE,if_true,if_false,List.set_cons_zero,List.set_cons_succ,List.length_map,List.length_range,List.length_append,List.length_cons,List.length_nil,aw,aq,ai,aj,ao,au,aD,aF,aG,aH,aI,aJ,aK,aL,aM]
       try rfl)).trans ?_
      simp(disch:=omega) only[hm2,decide_eq_false hg,Bool.false_eq_true,slD,atO,noO,iaD,itD,ay,aO,aN,aP,bn,ba,bg,aT,a7,bH,bJ,bq,bE,bA,bF,aY,bI,aZ,nmG,bB,aX,bd,bp,ifS,nxS,bD,mk,al,ar,am,aV,aW,oD,uD,bf,bh,cD,ah,ae,ak,bj,bi,bx,orB,bo,bz,orD,bC,aA,aB,aE,if_true,if_false,List.set_cons_zero,List.set_cons_succ,List.length_map,List.length_range,List.length_append,List.length_cons,List.length_nil,aw,aq,ai,aj,ao,au,aD,aF,aG,aH,aI,aJ,aK,aL,aM]
    )
 rw[List.length_map,List.length_range] at bl rl
 have wf:Rod.WF ⟨200,bs,rs,[]⟩ nmK:=⟨fun i j _ _ e=>by
  have:=congrArg (fun z:Str=>z.cps.toList) e
  have q:[120+i]=[120+j]:=this
  have:=(List.cons.inj q).1
  omega,by show 1≤bs.length;omega,by show bs.length≤6;omega,fun j x o h=>br j x o h⟩
 have hR:(⟨200,bs,rs,[]⟩:Rod).o= .ob .Road [(.pieces, .lst ((Pc.op 200::bsP bs).map Pc.o)),(.rounds, .lst (rs.map rdT)),(.shuts, .lst [])]:=rfl
 have hpl:=vS (ps:=Pc.op 200::bsP bs) (by rw[List.length_cons,mD];omega)
 have hI:=A7 (a:=(Pc.op 200::bsP bs).map Pc.o) (b:=rs.map rdT) (c:=[])
 have hmk:∀o6 o7:Option D,fo .Road pV (ae (ah gi (ae (vD 4) ak)) (ae (vD 5) (ae (bi ak) ak))) [some d,some (.int c0),some (.int dr),some (.lst (ws.map Wh.t)),some (.lst ((Pc.op 200::bsP bs).map Pc.t)),some (.lst (rs.map rdT)),o6,o7,none,none,none,none,none,none]=some (⟨200,bs,rs,[]⟩:Rod).o:=fun o6 o7=>by
  simp only[fo,ah,ae,ak,bi,bf,bh,aA,hpl,hI,Option.map_some]
  rfl
 have hmk:=hmk o6 o7
 generalize hRd:(⟨200,bs,rs,[]⟩:Rod)=R at*
 have bsR:R.bs=bs:=by rw[←hRd]
 have n1:=wf.n1
 have hws2:=zF wf
 generalize hsp:1+dr/200%12=sp
 generalize hld:Str.ofString "load"=ld
 have hIc:=qa (n:=ld) (s:=sp) (ws:=ws)
 have hIc:fo .Cart jK (ae (cD (.str ld)) (ae (oD (aa cF) (cD (.int 1)) (oD (aa fg) (oD (aa eE) (vD 2) (cD (.int 200))) (cD (.int 12)))) (ae (vD 3) ak))) [some d,some (.int c0),some (.int dr),some (.lst (ws.map Wh.t)),some (.lst ((Pc.op 200::bsP bs).map Pc.t)),some (.lst (rs.map rdT)),o6,o7,some R.o,none,none,none,none,none]=some (Ct.mk ld sp ws).o:=by
  simp(disch:=omega) only[fo,ae,ak,cD,oD,bf,bh,aA,ai,aq,ao,hsp,hIc,Option.map_some]
  rfl
 obtain⟨e2,hloop2,o10,rfl⟩:=dA (g:=nmG 10) (b:=(ifS (orB (bo (bD (ah gR (ae (vD 8) (ae (vD 9) (ae (vD 10) ak)))))) (bo (bD (ah fw (ae (vD 8) (ae (vD 9) (ae (vD 10) (ae (vD 3) ak)))))))) (bd (cD (.bl false))) nxS)) (ds:=(chs ((frs R).map me)).map .tup) (env:=[some d,some (.int c0),some (.int dr),some (.lst (ws.map Wh.t)),some (.lst ((Pc.op 200::bsP bs).map Pc.t)),some (.lst (rs.map rdT)),o6,o7,some R.o,some (Ct.mk ld sp ws).o,none,none,none,none])
  (fun i e=>∃o10,e=[some d,some (.int c0),some (.int dr),some (.lst (ws.map Wh.t)),some (.lst ((Pc.op 200::bsP bs).map Pc.t)),some (.lst (rs.map rdT)),o6,o7,some R.o,some (Ct.mk ld sp ws).o,o10,none,none,none]) ⟨none,rfl⟩ (by
   rintro i dd e hdd ⟨o10,rfl⟩
   rw[List.getElem?_map] at hdd
   obtain⟨v,hv,rfl⟩:=Option.map_eq_some_iff.mp hdd
   obtain⟨w,rfl,hw⟩:=tm (rs:=R.rounds) _ R.bs rfl v (List.mem_of_getElem? hv)
   have sg:Sg (dB R.rounds R.bs w R.first) ws:=fun x hxw=>List.all_eq_true.mpr fun y hy=>by
    obtain⟨z,hz,ez⟩:=qY hy
    rw[bsR] at hz
    obtain⟨z1,z2,z3⟩:=bw z hz
    obtain⟨z4,z5⟩:=z3 x hxw
    rw[←ez]
    unfold jt
    rw[Bool.and_eq_true,decide_eq_true_eq,decide_eq_true_eq]
    exact⟨qW z4 z1,qW z5 z2⟩
   have h1:=AO wf hw (n:=ld) (s:=sp) ok sg n0 n8
   have h2:=AQ wf hw (s:=sp) sg n0 n8
   rw[hld] at h2
   refine⟨_,rfl, ?_⟩
   refine⟨[some d,some (.int c0),some (.int dr),some (.lst (ws.map Wh.t)),some (.lst ((Pc.op 200::bsP bs).map Pc.t)),some (.lst (rs.map rdT)),o6,o7,some R.o,some (Ct.mk ld sp ws).o,some (.tup (w.map .bl)),none,none,none], ?_,_,rfl⟩
   generalize (Ct.mk ld sp ws).o=C at*
   generalize R.o=RO at*
   generalize ws.map Wh.t=WS at*
   generalize (Pc.op 200::bsP bs).map Pc.t=PP at*
   generalize rs.map rdT=RS at*
   generalize w.map D.bl=WW at*
   simp(disch:=omega) only[h1,h2,Bool.not_true,Bool.false_eq_true,slD,atO,noO,iaD,itD,ay,aO,aN,aP,bn,ba,bg,aT,a7,bH,bJ,bq,bE,bA,bF,aY,bI,aZ,nmG,bB,aX,bd,bp,ifS,nxS,bD,mk,al,ar,am,aV,aW,oD,uD,bf,bh,cD,ah,ae,ak,bj,bi,bx,orB,bo,bz,orD,bC,aA,aB,aE,if_true,if_false,List.set_cons_zero,List.set_cons_succ,List.length_map,List.length_range,List.length_append,List.length_cons,List.length_nil,aw,aq,ai,aj,ao,au,aD,aF,aG,aH,aI,aJ,aK,aL,aM]
   )
 obtain⟨cf,hcf⟩:=Classical.skolem.mp (show ∀k:Nat,∃c:Ct,k<5→eL [d, .int (k:Int)]=some c.o∧c.ws.length≤8 from fun k=>by
  by_cases h:k<5
  · obtain⟨c,h1,h2⟩:=AS hd h
    exact⟨c,fun _=>⟨h1,h2⟩⟩
  · exact⟨⟨ld,0,[]⟩,fun z=>absurd z h⟩)
 have hcomp:∀o6 o7 o8 o9 o10 o4 o5:Option D,bX (iaD (aa iL) (ae (oD (aa cF) (cD (.int 1)) (oD (aa fg) (oD (aa eE) (vD 2) (cD (.int 24))) (cD (.int 5)))) ak)) dR (ah eL (ae (vD 1) (ae (vD 0) ak))) [0] [some d,some (.int c0),some (.int dr),some (.lst (ws.map Wh.t)),o4,o5,o6,o7,o8,o9,o10,none,none,none]=some (.lst (((List.range m).map cf).map Ct.o)):=fun o6 o7 o8 o9 o10 o4 o5=>by
  unfold bX
  simp(disch:=omega) only[iaD,ae,ak,cD,oD,bf,bh,aA,ai,aq,ao,em,hrm]
  rw[if_pos (by rw[List.length_map,List.length_range];omega),d6 (f:=fun k:Nat=>(cf k).o),List.map_map]
  · rfl
  · intro k hk
    have hk:k<m:=List.mem_range.mp hk
    have h1:=(hcf k (by omega)).1
    refine⟨rfl, ?_⟩
    show ah eL (ae (vD 1) (ae (vD 0) ak)) [some (.int (0+(k:Int))),some d]=_
    simp only[ah,ae,ak,bf,bh,aA,Int.zero_add,h1]
 have cl:((List.range m).map cf).length=m:=by rw[List.length_map,List.length_range]
 have c8:∀c∈(List.range m).map cf,c.ws.length≤8:=fun c hc=>by
  obtain⟨k,hk,rfl⟩:=List.mem_map.mp hc
  have:=List.mem_range.mp hk
  exact(hcf k (by omega)).2
 obtain⟨c,hcz⟩:∃c,((List.range m).map cf)[0]? =some c:=⟨_,List.getElem?_eq_getElem (by omega)⟩
 generalize (List.range m).map cf=cs at*
 have hj:=wa (by omega) c8 hcz
 have fl:=q5 cs c8
 have hci:=tG (n:=c.name) (s:=c.speed) (ws:=(cs.map Ct.ws).flatten) (by omega)
 have hix:atI (cs.map Ct.o) 0=some c.o:=gM (n:=0) (by rw[List.getElem?_map,hcz];rfl)
 obtain⟨e3,hloop3,p7,rfl⟩:=dA (g:=nmG 7) (b:=(a7 12 (mk Fo (oD (aa cF) (vD 12) (uD (aa (bU .wheels)) (vD 7)))))) (ds:=cs.map Ct.o) (env:=[some d,some (.int c0),some (.int dr),some (.lst (ws.map Wh.t)),some (.lst ((Pc.op 200::bsP bs).map Pc.t)),some (.lst (rs.map rdT)),o6,o7,some R.o,some (Ct.mk ld sp ws).o,o10,some (.lst (cs.map Ct.o)),some (.lst []),none])
  (fun i e=>∃o7,e=[some d,some (.int c0),some (.int dr),some (.lst (ws.map Wh.t)),some (.lst ((Pc.op 200::bsP bs).map Pc.t)),some (.lst (rs.map rdT)),o6,o7,some R.o,some (Ct.mk ld sp ws).o,o10,some (.lst (cs.map Ct.o)),some (.lst (((cs.take i).map Ct.ws).flatten.map Wh.t)),none]) ⟨o7,rfl⟩ (by
   rintro i dd e hdd ⟨p7,rfl⟩
   rw[List.getElem?_map] at hdd
   obtain⟨x,hx,rfl⟩:=Option.map_eq_some_iff.mp hdd
   have hi:=(List.getElem?_eq_some_iff.mp hx).1
   refine⟨_,rfl, ?_⟩
   refine⟨[some d,some (.int c0),some (.int dr),some (.lst (ws.map Wh.t)),some (.lst ((Pc.op 200::bsP bs).map Pc.t)),some (.lst (rs.map rdT)),o6,some x.o,some R.o,some (Ct.mk ld sp ws).o,o10,some (.lst (cs.map Ct.o)),some (.lst (((cs.take (i+1)).map Ct.ws).flatten.map Wh.t)),none], ?_,_,rfl⟩
   have h1:=q5 (cs.take i) fun c hc=>c8 c (List.mem_of_mem_take hc)
   have h2:=c8 x (List.mem_of_getElem? hx)
   rw[List.length_take] at h1
   have had:aa cF (.lst (((cs.take i).map Ct.ws).flatten.map Wh.t)) (.lst (x.ws.map Wh.t))=some (.lst (((cs.take (i+1)).map Ct.ws).flatten.map Wh.t)):=by
    rw[az]
    show (if _ then _ else _)=_
    rw[if_pos (by rw[List.length_map,List.length_map];omega),List.take_add_one,hx,List.map_append,List.flatten_append,List.map_append]
    simp
   have gw:=nP (c:=x)
   generalize (((cs.take (i+1)).map Ct.ws).flatten.map Wh.t)=A2 at*
   generalize (((cs.take i).map Ct.ws).flatten.map Wh.t)=A1 at*
   generalize (Ct.mk ld sp ws).o=C at*
   generalize R.o=RO at*
   generalize ws.map Wh.t=WS at*
   generalize (Pc.op 200::bsP bs).map Pc.t=PP at*
   generalize rs.map rdT=RS at*
   generalize cs.map Ct.o=CS at*
   simp(disch:=omega) only[gw,had,slD,atO,noO,iaD,itD,ay,aO,aN,aP,bn,ba,bg,aT,a7,bH,bJ,bq,bE,bA,bF,aY,bI,aZ,nmG,bB,aX,bd,bp,ifS,nxS,bD,mk,al,ar,am,aV,aW,oD,uD,bf,bh,cD,ah,ae,ak,bj,bi,bx,orB,bo,bz,orD,bC,aA,aB,aE,if_true,if_false,List.set_cons_zero,List.set_cons_succ,List.length_map,List.length_range,List.length_append,List.length_cons,List.length_nil,aw,aq,ai,aj,ao,au,aD,aF,aG,aH,aI,aJ,aK,aL,aM]
   )
 rw[List.length_map,List.take_of_length_le (Nat.le_refl _)] at hloop3
 have hs:=pW (qb (ws:=ws) (k:=0) (by omega))
 have hcw:aa (bU .wheels) (Ct.mk ld sp ws).o=some (.lst (ws.map Wh.t)):=nP
 have gn:=v9 (c:=c)
 have gs:=uk (c:=c)
 have hwl:jV (Ct.mk c.name c.speed (cs.map Ct.ws).flatten).o=some ((cs.map Ct.ws).flatten.map Wh.t):=wb (by omega)
 rw[sZ,az]
 refine dO ?_
 show sY [some d,none,none,none,none,none,none,none,none,none,none,none,none,none]=_
 unfold sY
 rw[hld]
 generalize (Ct.mk c.name c.speed (cs.map Ct.ws).flatten).o=CJ at*
 generalize (cs.map Ct.ws).flatten.map Wh.t=DU at*
 generalize cs.map Ct.o=CS at*
 generalize (Ct.mk ld sp ws).o=C at*
 generalize R.o=RO at*
 generalize (Pc.op 200::bsP bs).map Pc.t=PP at*
 generalize rs.map rdT=RS at*
 generalize ws.map Wh.t=WS at*
 generalize F_law_same=S at*
 have hloop:fk _ _ _ [some d,some (.int c0),some (.int dr),some (.lst WS),some (.lst [.tup [.str (Str.ofString "open"), .int 200]]),some (.lst []),none,none,none,none,none,none,none,none]=_:=hloop
 refine(bc (by
  simp(disch:=omega) only[hc0,hl,hq,slD,atO,noO,iaD,itD,ay,aO,aN,aP,bn,ba,bg,aT,a7,bH,bJ,bq,bE,bA,bF,aY,bI,aZ,nmG,bB,aX,bd,bp,ifS,nxS,bD,mk,al,ar,am,aV,aW,oD,uD,bf,bh,cD,ah,ae,ak,bj,bi,bx,orB,bo,bz,orD,bC,aA,aB,aE,if_true,if_false,List.set_cons_zero,List.set_cons_succ,List.length_map,List.length_range,List.length_append,List.length_cons,List.length_nil,aw,aq,ai,aj,ao,au,aD,aF,aG,aH,aI,aJ,aK,aL,aM]
  try rfl)).trans ?_
 refine(bc (by
  simp(disch:=omega) only[hmix,slD,atO,noO,iaD,itD,ay,aO,aN,aP,bn,ba,bg,aT,a7,bH,bJ,bq,bE,bA,bF,aY,bI,aZ,nmG,bB,aX,bd,bp,ifS,nxS,bD,mk,al,ar,am,aV,aW,oD,uD,bf,bh,cD,ah,ae,ak,bj,bi,bx,orB,bo,bz,orD,bC,aA,aB,aE,if_true,if_false,List.set_cons_zero,List.set_cons_succ,List.length_map,List.length_range,List.length_append,List.length_cons,List.length_nil,aw,aq,ai,aj,ao,au,aD,aF,aG,aH,aI,aJ,aK,aL,aM]
  try rfl)).trans ?_
 refine(bc (by
  simp(disch:=omega) only[en,hws,slD,atO,noO,iaD,itD,ay,aO,aN,aP,bn,ba,bg,aT,a7,bH,bJ,bq,bE,bA,bF,aY,bI,aZ,nmG,bB,aX,bd,bp,ifS,nxS,bD,mk,al,ar,am,aV,aW,oD,uD,bf,bh,cD,ah,ae,ak,bj,bi,bx,orB,bo,bz,orD,bC,aA,aB,aE,if_true,if_false,List.set_cons_zero,List.set_cons_succ,List.length_map,List.length_range,List.length_append,List.length_cons,List.length_nil,aw,aq,ai,aj,ao,au,aD,aF,aG,aH,aI,aJ,aK,aL,aM]
  try rfl)).trans ?_
 refine(bc (by
  simp(disch:=omega) only[en,slD,atO,noO,iaD,itD,ay,aO,aN,aP,bn,ba,bg,aT,a7,bH,bJ,bq,bE,bA,bF,aY,bI,aZ,nmG,bB,aX,bd,bp,ifS,nxS,bD,mk,al,ar,am,aV,aW,oD,uD,bf,bh,cD,ah,ae,ak,bj,bi,bx,orB,bo,bz,orD,bC,aA,aB,aE,if_true,if_false,List.set_cons_zero,List.set_cons_succ,List.length_map,List.length_range,List.length_append,List.length_cons,List.length_nil,aw,aq,ai,aj,ao,au,aD,aF,aG,aH,aI,aJ,aK,aL,aM]
  try rfl)).trans ?_
 refine(bc (by
  simp(disch:=omega) only[en,slD,atO,noO,iaD,itD,ay,aO,aN,aP,bn,ba,bg,aT,a7,bH,bJ,bq,bE,bA,bF,aY,bI,aZ,nmG,bB,aX,bd,bp,ifS,nxS,bD,mk,al,ar,am,aV,aW,oD,uD,bf,bh,cD,ah,ae,ak,bj,bi,bx,orB,bo,bz,orD,bC,aA,aB,aE,if_true,if_false,List.set_cons_zero,List.set_cons_succ,List.length_map,List.length_range,List.length_append,List.length_cons,List.length_nil,aw,aq,ai,aj,ao,au,aD,aF,aG,aH,aI,aJ,aK,aL,aM]
  try rfl)).trans ?_
 refine(bc (by
  simp(disch:=omega) only[eb,hrb,hloop,slD,atO,noO,iaD,itD,ay,aO,aN,aP,bn,ba,bg,aT,a7,bH,bJ,bq,bE,bA,bF,aY,bI,aZ,nmG,bB,aX,bd,bp,ifS,nxS,bD,mk,al,ar,am,aV,aW,oD,uD,bf,bh,cD,ah,ae,ak,bj,bi,bx,orB,bo,bz,orD,bC,aA,aB,aE,if_true,if_false,List.set_cons_zero,List.set_cons_succ,List.length_map,List.length_range,List.length_append,List.length_cons,List.length_nil,aw,aq,ai,aj,ao,au,aD,aF,aG,aH,aI,aJ,aK,aL,aM]
  try rfl)).trans ?_
 refine(bc (by
  simp(disch:=omega) only[hmk,slD,atO,noO,iaD,itD,ay,aO,aN,aP,bn,ba,bg,aT,a7,bH,bJ,bq,bE,bA,bF,aY,bI,aZ,nmG,bB,aX,bd,bp,ifS,nxS,bD,mk,al,ar,am,aV,aW,oD,uD,bf,bh,cD,ah,ae,ak,bj,bi,bx,orB,bo,bz,orD,bC,aA,aB,aE,if_true,if_false,List.set_cons_zero,List.set_cons_succ,List.length_map,List.length_range,List.length_append,List.length_cons,List.length_nil,aw,aq,ai,aj,ao,au,aD,aF,aG,aH,aI,aJ,aK,aL,aM]
  try rfl)).trans ?_
 refine(bc (by
  simp(disch:=omega) only[hIc,slD,atO,noO,iaD,itD,ay,aO,aN,aP,bn,ba,bg,aT,a7,bH,bJ,bq,bE,bA,bF,aY,bI,aZ,nmG,bB,aX,bd,bp,ifS,nxS,bD,mk,al,ar,am,aV,aW,oD,uD,bf,bh,cD,ah,ae,ak,bj,bi,bx,orB,bo,bz,orD,bC,aA,aB,aE,if_true,if_false,List.set_cons_zero,List.set_cons_succ,List.length_map,List.length_range,List.length_append,List.length_cons,List.length_nil,aw,aq,ai,aj,ao,au,aD,aF,aG,aH,aI,aJ,aK,aL,aM]
  try rfl)).trans ?_
 refine(bc (by
  simp(disch:=omega) only[hws2,cN,hloop2,slD,atO,noO,iaD,itD,ay,aO,aN,aP,bn,ba,bg,aT,a7,bH,bJ,bq,bE,bA,bF,aY,bI,aZ,nmG,bB,aX,bd,bp,ifS,nxS,bD,mk,al,ar,am,aV,aW,oD,uD,bf,bh,cD,ah,ae,ak,bj,bi,bx,orB,bo,bz,orD,bC,aA,aB,aE,if_true,if_false,List.set_cons_zero,List.set_cons_succ,List.length_map,List.length_range,List.length_append,List.length_cons,List.length_nil,aw,aq,ai,aj,ao,au,aD,aF,aG,aH,aI,aJ,aK,aL,aM]
  try rfl)).trans ?_
 refine(bc (by
  simp(disch:=omega) only[hcomp,slD,atO,noO,iaD,itD,ay,aO,aN,aP,bn,ba,bg,aT,a7,bH,bJ,bq,bE,bA,bF,aY,bI,aZ,nmG,bB,aX,bd,bp,ifS,nxS,bD,mk,al,ar,am,aV,aW,oD,uD,bf,bh,cD,ah,ae,ak,bj,bi,bx,orB,bo,bz,orD,bC,aA,aB,aE,if_true,if_false,List.set_cons_zero,List.set_cons_succ,List.length_map,List.length_range,List.length_append,List.length_cons,List.length_nil,aw,aq,ai,aj,ao,au,aD,aF,aG,aH,aI,aJ,aK,aL,aM]
  try rfl)).trans ?_
 refine(bc (by
  simp(disch:=omega) only[en,slD,atO,noO,iaD,itD,ay,aO,aN,aP,bn,ba,bg,aT,a7,bH,bJ,bq,bE,bA,bF,aY,bI,aZ,nmG,bB,aX,bd,bp,ifS,nxS,bD,mk,al,ar,am,aV,aW,oD,uD,bf,bh,cD,ah,ae,ak,bj,bi,bx,orB,bo,bz,orD,bC,aA,aB,aE,if_true,if_false,List.set_cons_zero,List.set_cons_succ,List.length_map,List.length_range,List.length_append,List.length_cons,List.length_nil,aw,aq,ai,aj,ao,au,aD,aF,aG,aH,aI,aJ,aK,aL,aM]
  try rfl)).trans ?_
 refine(bc (by
  simp(disch:=omega) only[cN,hloop3,slD,atO,noO,iaD,itD,ay,aO,aN,aP,bn,ba,bg,aT,a7,bH,bJ,bq,bE,bA,bF,aY,bI,aZ,nmG,bB,aX,bd,bp,ifS,nxS,bD,mk,al,ar,am,aV,aW,oD,uD,bf,bh,cD,ah,ae,ak,bj,bi,bx,orB,bo,bz,orD,bC,aA,aB,aE,if_true,if_false,List.set_cons_zero,List.set_cons_succ,List.length_map,List.length_range,List.length_append,List.length_cons,List.length_nil,aw,aq,ai,aj,ao,au,aD,aF,aG,aH,aI,aJ,aK,aL,aM]
  try rfl)).trans ?_
 refine(bc (um (d:=CJ) (z:= .tup [.int 1, .int 1, .int 1]) ?_ hwl rfl ?_)).trans ?_
 · skip
   simp(disch:=omega) only[hj,slD,atO,noO,iaD,itD,ay,aO,aN,aP,bn,ba,bg,aT,a7,bH,bJ,bq,bE,bA,bF,aY,bI,aZ,nmG,bB,aX,bd,bp,ifS,nxS,bD,mk,al,ar,am,aV,aW,oD,uD,bf,bh,cD,ah,ae,ak,bj,bi,bx,orB,bo,bz,orD,bC,aA,aB,aE,if_true,if_false,List.set_cons_zero,List.set_cons_succ,List.length_map,List.length_range,List.length_append,List.length_cons,List.length_nil,aw,aq,ai,aj,ao,au,aD,aF,aG,aH,aI,aJ,aK,aL,aM]
 · skip
   simp(disch:=omega) only[gS,hix,gn,gs,hci,Bool.not_true,slD,atO,noO,iaD,itD,ay,aO,aN,aP,bn,ba,bg,aT,a7,bH,bJ,bq,bE,bA,bF,aY,bI,aZ,nmG,bB,aX,bd,bp,ifS,nxS,bD,mk,al,ar,am,aV,aW,oD,uD,bf,bh,cD,ah,ae,ak,bj,bi,bx,orB,bo,bz,orD,bC,aA,aB,aE,if_true,if_false,List.set_cons_zero,List.set_cons_succ,List.length_map,List.length_range,List.length_append,List.length_cons,List.length_nil,aw,aq,ai,aj,ao,au,aD,aF,aG,aH,aI,aJ,aK,aL,aM]
 · skip
   simp(disch:=omega) only[gS,hix,gn,gs,hci,hj,hcw,hs,slD,atO,noO,iaD,itD,ay,aO,aN,aP,bn,ba,bg,aT,a7,bH,bJ,bq,bE,bA,bF,aY,bI,aZ,nmG,bB,aX,bd,bp,ifS,nxS,bD,mk,al,ar,am,aV,aW,oD,uD,bf,bh,cD,ah,ae,ak,bj,bi,bx,orB,bo,bz,orD,bC,aA,aB,aE,if_true,if_false,List.set_cons_zero,List.set_cons_succ,List.length_map,List.length_range,List.length_append,List.length_cons,List.length_nil,aw,aq,ai,aj,ao,au,aD,aF,aG,aH,aI,aJ,aK,aL,aM]
local macro_rules | `(tactic| o_reads) => `(tactic| first | exact Or.inl rfl | exact Or.inr rfl)
def qc(K:W.Frag):Sp:=fun vs H Q _=>∃(a:Addr) (ns:List Int),vs=[.ref a]∧SqL K H a (ns.map V.int)∧ns.length≤63∧∀H',Q (.bl true) H'
section
variable{P:Program}{w:World}{K:W.Frag}{mg:Str→Option Value}{base:Heap}
theorem tI{P:Program}{w:World}{K:W.Frag}{mg:Str→Option Value}{base:Heap}{f:Addr}{fd:FuncData}{ps:List Str}{n:Nat}:FnOk P w K mg base CX0 0 f fd ps (spP K kNames .no n fun _=>none):=⟨fun vs H Q E h=>(by obtain⟨_,_,_,_,_,z,_⟩:=h;cases z),fun A outer s H args us vs Q E _ _ _ _ h=>(by obtain⟨_,_,_,_,_,z,_⟩:=h;cases z)⟩
theorem tJ{P:Program}{w:World}{K:W.Frag}{mg:Str→Option Value}{base:Heap}{fu:Addr}{du:FuncData}{fv:Addr}{dv:FuncData}(Fu:Fun K "_law_alike" "_law_alike" eH fu du)(Fv:Fun K "_law_same" "_law_same" gC fv dv)(bu:Binds K du ["_law_found","_law_due"] [])(bv:Binds K dv ["_law_found","_law_due"] [])(ku:W.keepIn K (.ref fu)=true)(kv:W.keepIn K (.ref fv)=true)(mu:mg "_law_alike"=some (.ref fu))(mv:mg "_law_same"=some (.ref fv))(z_all:mg "all"=none)(z_bool:mg "bool"=none)(z_int:mg "int"=none)(z_isinstance:mg "isinstance"=none)(z_len:mg "len"=none)(z_list:mg "list"=none)(z_str:mg "str"=none)(z_tuple:mg "tuple"=none)(z_zip:mg "zip"=none):∀n:Nat,Got P w K mg base n "_law_alike" ["_law_found","_law_due"] (spP K kNames .no 2 (eJ n).1)∧Got P w K mg base n "_law_same" ["_law_found","_law_due"] (spP K kNames .no 2 (eJ n).2)
 |0=>⟨⟨⟨_,_,tI,bu,ku,mu⟩⟩,⟨⟨_,_,tI,bv,kv,mv⟩⟩⟩
 |n+1=>by
  obtain⟨g_law_alike,g_law_same⟩:=tJ Fu Fv bu bv ku kv mu mv z_all z_bool z_int z_isinstance z_len z_list z_str z_tuple z_zip n
  have hu:FnOk P w K mg base CX0 (n+1) fu du ["_law_found","_law_due"] (spP K kNames .no 2 (eJ (n+1)).1):=by
   refine Fu.ok pT (fun vs H Q E h=>ck h) (fun cdv A outer s H vs Q E hr h=> ?_)
   have hu:=hr.units
   simp only[eJ,az] at h
   refine⟨_,(aC (dZ (PW.pt (mE (da (bK fX rfl z_isinstance cb (ac (pv 1) (ac (eO (v:= .ty "list") rfl z_list jz rfl) av)))) (ka (ip (da (bK fX rfl z_isinstance cb (ac (pv 0) (ac (eO (v:= .ty "list") rfl z_list jz rfl) av)))))))) (be (bR hJ)) cy)
          (aC (dZ (PW.pt (mE (da (bK fX rfl z_isinstance cb (ac (pv 1) (ac (eO (v:= .ty "tuple") rfl z_tuple mn rfl) av)))) (ka (ip (da (bK fX rfl z_isinstance cb (ac (pv 0) (ac (eO (v:= .ty "tuple") rfl z_tuple mn rfl) av)))))))) (be (bR hJ)) cy)
          (aC (dZ (eC (uL hu) (bK lT rfl z_len ju (ac (pv 0) av)) (bK lT rfl z_len ju (ac (pv 1) av)) (dG _)) (be (bR hJ)) cy)
          (be (bR (bK (gI rfl) rfl z_all sy (ac (uQ [] [] (CompCT.to iz rfl rfl) rfl rfl (fun _ _ _ _ _=>(wL (K:=K) (n:=2) rfl rfl (ff (sC (CompCT.to iz rfl rfl) 0 rfl (by decide)) (ff (sC (CompCT.to iz rfl rfl) 1 rfl (by decide)) kb)))) (cr (yW rfl z_zip (ac (pv 0) (ac (pv 1) av))) (wN rfl z_zip (ac (pv 0) (ac (pv 1) av)))) (fun _ _ _ _ _=>dQ) (fun _ _ _ _ _=>(lj g_law_same (by rfl) (by rfl) (by rfl) (by rfl) (by rfl) (by exact hr) (by o_reads) rfl (ac (pv 0) (ac (pv 1) av))))) av))))))), ?_⟩
   exact dE (K:=K) (ns:=kNames) (fl':=[]) (n:=2) (b:=fN (eJ n).2)
         (bM (hZ (km (eD (cS (jk "list" (by decide) (ag 1)))) (fZ (eD (cS (jk "list" (by decide) (ag 0)))))) (cJ (iw _))
         dc)
         (bM (hZ (km (eD (cS (jk "tuple" (by decide) (ag 1)))) (fZ (eD (cS (jk "tuple" (by decide) (ag 0)))))) (cJ (iw _))
         dc)
         (bM (hZ (iK (oS (aU yg (cS (cp gY (af (ag 0) ax))) (cS (cp gY (af (ag 1) ax)))))) (cJ (iw _))
         dc)
         (cJ (cS (cp pB (af (PuF.pe (vm (iS (wV (af (ag 0) (af (ag 1) ax)))) fF (cI (af (ag 0) (af (ag 1) ax))))) ax))))))) rfl (by decide) h
  have hv:FnOk P w K mg base CX0 (n+1) fv dv ["_law_found","_law_due"] (spP K kNames .no 2 (eJ (n+1)).2):=by
   refine Fv.ok qL (fun vs H Q E h=>ck h) (fun cdv A outer s H vs Q E hr h=> ?_)
   have hu:=hr.units
   simp only[eJ,az] at h
   refine⟨_,(aC (dZ (eC rJ (pv 1) oX (dG _)) (be (bR (jN rJ (pv 0) oX (dG _)))) cy)
          (aC (dZ (da (bK qB rfl z_isinstance cb (ac (pv 1) (ac (e9 (ac (eO (v:= .ty "list") rfl z_list jz rfl) (ac (eO (v:= .ty "tuple") rfl z_tuple mn rfl) av))) av)))) (be (bR (kM (bK qB rfl z_isinstance cb (ac (pv 0) (ac (e9 (ac (eO (v:= .ty "list") rfl z_list jz rfl) (ac (eO (v:= .ty "tuple") rfl z_tuple mn rfl) av))) av))) (mF (bT g_law_alike hr (by o_reads) rfl (ac (pv 0) (ac (pv 1) av))))))) cy)
          (aC (dZ (da (bK fX rfl z_isinstance cb (ac (pv 1) (ac (eO (v:= .ty "str") rfl z_str xX rfl) av)))) (be (bR (kM (bK fX rfl z_isinstance cb (ac (pv 0) (ac (eO (v:= .ty "str") rfl z_str xX rfl) av))) (mF (jN (kU hu) (pv 0) (pv 1) (dG _)))))) cy)
          (be (bR (kM (bK fX rfl z_isinstance cb (ac (pv 0) (ac (eO (v:= .ty "int") rfl z_int Ah rfl) av))) (kM (jN (kU hu) (bK fX rfl z_isinstance cb (ac (pv 0) (ac (eO (v:= .ty "bool") rfl z_bool uJ rfl) av))) (bK fX rfl z_isinstance cb (ac (pv 1) (ac (eO (v:= .ty "bool") rfl z_bool uJ rfl) av))) (dG _)) (mF (jN (kU hu) (pv 0) (pv 1) (dG _)))))))))), ?_⟩
   exact dE (K:=K) (ns:=kNames) (fl':=[]) (n:=2) (b:=iA (eJ n).1)
         (bM (hZ (iK (oS (aU u8 (ag 1) pz))) (cJ (oS (aU u8 (ag 0) pz)))
         dc)
         (bM (hZ (eD (cS (sJ (ag 1)))) (cJ (kY (cS (sJ (ag 0))) (cI (af (ag 0) (af (ag 1) ax)))))
         dc)
         (bM (hZ (eD (cS (jk "str" (by decide) (ag 1)))) (cJ (kY (cS (jk "str" (by decide) (ag 0))) (oS (aU ou (ag 0) (ag 1)))))
         dc)
         (cJ (kY (cS (jk "int" (by decide) (ag 0))) (kY (oS (aU ou (cS (jk "bool" (by decide) (ag 0))) (cS (jk "bool" (by decide) (ag 1))))) (oS (aU ou (ag 0) (ag 1))))))))) rfl (by decide) h
  exact⟨⟨⟨_,_,hu,bu,ku,mu⟩⟩,⟨⟨_,_,hv,bv,kv,mv⟩⟩⟩
theorem rX{f:Addr}{fd:FuncData}(F:Fun K "_law_mix" "_law_mix" ij f fd):
 FnOk P w K mg base CX0 1 f fd ["_law_cell_here","_law_one","_law_prime"] (gD K):=by
 refine F.ok ng (fun vs H Q E h=>ck h) (fun cdv A outer s H vs Q E hr h=> ?_)
 have hu:=hr.units
 have h:spP K kNames .no 3 (ba 4 i8) vs H Q E:=by rw[←az (ba 4 i8)];exact h
 refine⟨_,(aC (bN (i:=3) ng.nd rfl (by o_reads) (bG cK (bG jQ (bG bW (bG bW (bG bW (bG cK (pv 0) (pv 2)) aR) (bG jQ (bG jQ aR (pv 1)) (pv 1))) (pv 1)) aR) (pv 2)))
  (be (bR (bG cU (bG cK (bG jQ (pv 3) (pv 3)) aR) aR)))), ?_⟩
 exact dE (K:=K) (ns:=kNames) (fl':=[]) (n:=4) (b:=i8)
  (bM (cx 3 (oS (aU cL (oS (aU lc (oS (aU cq (oS (aU cq (oS (aU cq (oS (aU cL (ag 0) (ag 2))) (aS _))) (oS (aU lc (oS (aU lc (aS _) (ag 1))) (ag 1))))) (ag 1))) (aS _))) (ag 2))))
  (cJ (oS (aU cG (oS (aU cL (oS (aU lc (ag 3) (ag 3))) (aS _))) (aS _))))) rfl (by decide) h
theorem nQ{f:Addr}{fd:FuncData}(F:Fun K "_law_wheels" "_law_wheels" eR f fd)(g_law_mix:Got P w K mg base 1 "_law_mix" ["_law_cell_here","_law_one","_law_prime"] (gD K))(z_range:mg "range"=none)(z_min:mg "min"=none):
 FnOk P w K mg base CX0 2 f fd ["_law_cell_here","_law_many"] (gK K):=by
 refine F.ok cC (fun vs H Q E h=>ck h) (fun cdv A outer s H vs Q E hr h=> ?_)
 have hu:=hr.units
 have h:spP K kNames .yes 2 (bg 10 eU) vs H Q E:=by rw[←az (bg 10 eU)];exact h
 refine⟨_,(aC (bN (i:=2) cC.nd rfl (by o_reads) (dC av))
  (aC (bN (i:=3) cC.nd rfl (by o_reads) aR)
  (aC (eA PassesOwn.never rfl (i3 rfl z_range (ac (pv 1) av)) (cz (i:=4) cC.nd rfl (by o_reads)) (aC (bN (i:=5) cC.nd rfl (by o_reads) (bT g_law_mix hr (by o_reads) rfl (ac (pv 0) (ac (bG bW aR (pv 4)) (ac aR av)))))
  (aC (bN (i:=6) cC.nd rfl (by o_reads) (bK (jO rfl) rfl z_min sD (ac aR (ac (bG kP (pv 3) (bG kP (bG kP (pv 1) aR) (pv 4))) av))))
  (aC (bN (i:=7) cC.nd rfl (by o_reads) (cE cB (dC (ac aR (ac (pv 6) (ac (bG bW aR (bG cK (bG cU (pv 5) aR) (pv 6))) (ac (bG bW aR (bG cK (bG cU (pv 5) aR) (bK (jO rfl) rfl z_min sD (ac (pv 6) (ac aR av))))) av))))) (bG cK (pv 5) aR) (fun _ _=>rfl)))
  (aC (bN (i:=8) cC.nd rfl (by o_reads) (cE cB (dC (ac (bG cK (bG cU (pv 5) aR) aR) (ac (bG cK (bG cU (pv 5) aR) aR) (ac aR (ac (bG cK (bG bW (pv 0) (pv 5)) aR) av))))) (bG cK (bG cU (pv 5) aR) aR) (fun _ _=>rfl)))
  (aC (bN (i:=9) cC.nd rfl (by o_reads) (cE cB (dC (ac (pv 8) (ac aR (ac (bG cK (bG cU (pv 5) aR) (bG bW (pv 8) aR)) av)))) (bG cK (bG cU (pv 5) aR) aR) (fun _ _=>rfl)))
  (aC (dq (i5 PySem.F.plainAttrs_list PySem.F.slot_list_append PySem.F.type_list_append cZ (pv 2) (ac (e9 (ac (pv 7) (ac (pv 9) (ac (pv 8) av)))) av)))
  (be (dZ (eC xP (pv 4) aR (dG _)) (be (bN (i:=3) cC.nd rfl (by o_reads) (bG kP (pv 3) (pv 7)))) cy)))))))))
  (be (bR (pv 2)))))), ?_⟩
 exact h6 (K:=K) (ns:=kNames) (fl':=[]) (n:=10) (b:=eU)
  (bM (jD 2 (dD ax) (by decide))
  (bM (cx 3 (aS _))
  (bM (gP (iS (kq (af (ag 1) ax))) (gb 4 rfl)
  (bM (cx 5 (cI (af (ag 0) (af (oS (aU cq (aS _) (ag 4))) (af (aS _) ax)))))
  (bM (cx 6 (cS (cp mw (af (aS _) (af (oS (aU lb (ag 3) (oS (aU lb (oS (aU lb (ag 1) (aS _))) (ag 4))))) ax)))))
  (bM (cx 7 (oS (aU cH (PuF.pe (dD (af (aS _) (af (ag 6) (af (oS (aU cq (aS _) (oS (aU cL (oS (aU cG (ag 5) (aS _))) (ag 6))))) (af (oS (aU cq (aS _) (oS (aU cL (oS (aU cG (ag 5) (aS _))) (cS (cp mw (af (ag 6) (af (aS _) ax)))))))) ax)))))) (oS (aU cL (ag 5) (aS _))))))
  (bM (cx 8 (oS (aU cH (PuF.pe (dD (af (oS (aU cL (oS (aU cG (ag 5) (aS _))) (aS _))) (af (oS (aU cL (oS (aU cG (ag 5) (aS _))) (aS _))) (af (aS _) (af (oS (aU cL (oS (aU cq (ag 0) (ag 5))) (aS _))) ax)))))) (oS (aU cL (oS (aU cG (ag 5) (aS _))) (aS _))))))
  (bM (cx 9 (oS (aU cH (PuF.pe (dD (af (ag 8) (af (aS _) (af (oS (aU cL (oS (aU cG (ag 5) (aS _))) (oS (aU cq (ag 8) (aS _))))) ax))))) (oS (aU cL (oS (aU cG (ag 5) (aS _))) (aS _))))))
  (bM (mW 2 (fY (af (ag 7) (af (ag 9) (af (ag 8) ax)))) rfl)
  (hZ (iK (oS (aU yf (ag 4) (aS _)))) (cx 3 (oS (aU lb (ag 3) (ag 7))))
  dc))))))))
  (mU 2 rfl)))) rfl (by decide) h
theorem nD{f:Addr}{fd:FuncData}(F:Fun K "each_choice" "each_choice" dF f fd):
 FnOk P w K mg base CX0 1 f fd ["choices"] (iB K):=by
 refine F.ok dI (fun vs H Q E h=>ck h) (fun cdv A outer s H vs Q E hr h=> ?_)
 have hu:=hr.units
 have h:spP K kNames .yes 1 (bg 5 d9) vs H Q E:=by rw[←az (bg 5 d9)];exact h
 refine⟨_,(aC (bN (i:=1) dI.nd rfl (by o_reads) (dC (ac (e9 av) av)))
  (aC (eA PassesOwn.never rfl (cr (cA (pv 0)) (cr (cT (pv 0)) (cV (pv 0)))) (cz (i:=2) dI.nd rfl (by o_reads)) (aC (bN (i:=3) dI.nd rfl (by o_reads) (dC av))
  (aC (eA PassesOwn.never rfl (cr (cA (pv 1)) (cr (cT (pv 1)) (cV (pv 1)))) (cz (i:=4) dI.nd rfl (by o_reads)) (be (dq (i5 PySem.F.plainAttrs_list PySem.F.slot_list_extend PySem.F.type_list_extend oi (pv 3) (ac (dH ["ahead"] [4] (CompC.to lu rfl rfl) rfl (cr (cA (pv 2)) (cr (cT (pv 2)) (cV (pv 2)))) (fun _ _ _ _ _=>dQ) (fun _ _ _ _ _=>(bG (jA (K:=K) rfl) (pv 1) (e9 (ac (pv 0) av))))) av)))))
  (be (bN (i:=1) dI.nd rfl (by o_reads) (pv 3))))))
  (be (bR (pv 1))))), ?_⟩
 exact h6 (K:=K) (ns:=kNames) (fl':=[]) (n:=5) (b:=d9)
  (bM (jD 1 (dD (af (fY ax) ax)) (by decide))
  (bM (gP (db (ag 0)) (gb 2 rfl)
  (bM (jD 3 (dD ax) (by decide))
  (bM (vg [1] (gP (db (ag 1)) (gb 4 rfl)
  (yi 3 (PuF.pe (dw (db (ag 2)) fF (oS (aU cq (ag 1) (fY (af (ag 0) ax)))))) rfl)))
  (zq 1 3 rfl (by decide) (by decide)))))
  (mU 1 rfl))) rfl (by decide) h
theorem rc{f:Addr}{fd:FuncData}(F:Fun K "round_of" "round_of" gy f fd):
 FnOk P w K mg base CX0 1 f fd ["road","name"] (iN K):=by
 refine F.ok lR (fun vs H Q E h=>ck h) (fun cdv A outer s H vs Q E hr h=> ?_)
 have hu:=hr.units
 have h:spP K kNames .no 2 (ba 3 eK) vs H Q E:=by rw[←az (ba 3 eK)];exact h
 refine⟨_,(aC (eA PassesOwn.never rfl (cr (cA (bS (f:="rounds") (pv 0) rfl)) (cr (cT (bS (f:="rounds") (pv 0) rfl)) (cV (bS (f:="rounds") (pv 0) rfl)))) (cz (i:=2) lR.nd rfl (by o_reads)) (be (dZ (eC (kU hu) (cE cB (pv 2) aR (fun _ _=>rfl)) (pv 1) (dG _)) (be (bR (cE cB (pv 2) aR (fun _ _=>rfl)))) cy)))
  (be (bR oX))), ?_⟩
 exact dE (K:=K) (ns:=kNames) (fl':=[]) (n:=3) (b:=eK)
  (bM (gP (db (uS (bY .rounds (ag 0)))) (gb 2 rfl)
  (hZ (iK (oS (aU ou (oS (aU cH (ag 2) (aS _))) (ag 1)))) (cJ (oS (aU cH (ag 2) (aS _))))
  dc))
  (cJ pz)) rfl (by decide) h
theorem qd{f:Addr}{fd:FuncData}(F:Fun K "ways_past" "ways_past" fL f fd)(g_round_of:Got P w K mg base 1 "round_of" ["road","name"] (iN K)):
 FnOk P w K mg base CX0 2 f fd ["road","bridge"] (jm K):=by
 refine F.ok pQ (fun vs H Q E h=>ck h) (fun cdv A outer s H vs Q E hr h=> ?_)
 have hu:=hr.units
 have h:spP K kNames .no 2 (ba 2 fP) vs H Q E:=by rw[←az (ba 2 fP)];exact h
 refine⟨_,(aC (dZ (eC rJ (bT g_round_of hr (by o_reads) rfl (ac (pv 0) (ac (bS (f:="name") (pv 1) rfl) av))) oX (dG _)) (be (bR (e9 (ac hJ av)))) cy)
  (be (bR (e9 (ac hJ (ac hJ av)))))), ?_⟩
 exact dE (K:=K) (ns:=kNames) (fl':=[]) (n:=2) (b:=fP)
  (bM (hZ (iK (oS (aU u8 (cI (af (ag 0) (af (uS (bY .name (ag 1))) ax))) pz))) (cJ (fY (af (iw _) ax)))
  dc)
  (cJ (fY (af (iw _) (af (iw _) ax))))) rfl (by decide) h
theorem nR{f:Addr}{fd:FuncData}(F:Fun K "bridges_of" "bridges_of" dS f fd)(d_Bridge:PKd K kNames (clA K "Bridge") ["Bridge"] ["name","length","bears","wide","most"])(n_Bridge:mg "Bridge"=some (.ref (clA K "Bridge")))(z_isinstance:mg "isinstance"=none):
 FnOk P w K mg base CX0 1 f fd ["road"] (fq K):=by
 refine F.ok nM (fun vs H Q E h=>ck h) (fun cdv A outer s H vs Q E hr h=> ?_)
 have hu:=hr.units
 have h:spP K kNames .yes 1 (bg 1 eV) vs H Q E:=by rw[←az (bg 1 eV)];exact h
 refine⟨_,(be (bR (dH [] [] (CompC.to lW rfl rfl) rfl (cr (cA (bS (f:="pieces") (pv 0) rfl)) (cr (cT (bS (f:="pieces") (pv 0) rfl)) (cV (bS (f:="pieces") (pv 0) rfl)))) (fun _ _ _ _ _=>(pj (da (bK (tY (K:=K) rfl) rfl z_isinstance cb (ac (pv 0) (ac (y3 (K:=K) rfl rfl n_Bridge) av)))))) (fun _ _ _ _ _=>(pv 0))))), ?_⟩
 exact h6 (K:=K) (ns:=kNames) (fl':=[]) (n:=1) (b:=eV)
  (pE (dw (db (uS (bY .pieces (ag 0)))) (eD (cS (pI .Bridge (by decide) (ag 0)))) (ag 0))) rfl (by decide) h
theorem rY{f:Addr}{fd:FuncData}(F:Fun K "ways_of" "ways_of" gz f fd)(g_each_choice:Got P w K mg base 1 "each_choice" ["choices"] (iB K))(g_ways_past:Got P w K mg base 2 "ways_past" ["road","bridge"] (jm K))(g_bridges_of:Got P w K mg base 1 "bridges_of" ["road"] (fq K)):
 FnOk P w K mg base CX0 3 f fd ["road"] (j7 K):=by
 refine F.ok rR (fun vs H Q E h=>ck h) (fun cdv A outer s H vs Q E hr h=> ?_)
 have hu:=hr.units
 have h:spP K kNames .yes 1 (bg 1 ik) vs H Q E:=by rw[←az (bg 1 ik)];exact h
 refine⟨_,(be (bR (bT g_each_choice hr (by o_reads) rfl (ac (dH ["road"] [0] (CompC.to pR rfl rfl) rfl (cr (cA (bT g_bridges_of hr (by o_reads) rfl (ac (pv 0) av))) (cr (cT (bT g_bridges_of hr (by o_reads) rfl (ac (pv 0) av))) (cV (bT g_bridges_of hr (by o_reads) rfl (ac (pv 0) av))))) (fun _ _ _ _ _=>dQ) (fun _ _ _ _ _=>(lj g_ways_past (by rfl) (by rfl) (by rfl) (by rfl) (by rfl) (by exact hr) (by o_reads) rfl (ac (pv 1) (ac (pv 0) av))))) av)))), ?_⟩
 exact h6 (K:=K) (ns:=kNames) (fl':=[]) (n:=1) (b:=ik)
  (pE (gZ (af (PuF.pe (dw (db (PuF.pe (gZ (af (ag 0) ax)))) fF (cI (af (ag 1) (af (ag 0) ax))))) ax))) rfl (by decide) h
theorem qe{f:Addr}{fd:FuncData}(F:Fun K "__init__" "Cart.__init__" fI f fd)(z_list:mg "list"=none):
 FnOk P w K mg base CX0 1 f fd ["self","name","speed","wheels"] (eW K):=by
 refine F.ok pN (fun vs H Q E h=>xp h) (fun cdv A outer s H vs Q E hr h=> ?_)
 have hu:=hr.units
 refine⟨_,(aC (gW (f:="name") (pv 0) (pv 1) rfl)
  (aC (gW (f:="speed") (pv 0) (pv 2) rfl)
  (be (gW (f:="wheels") (pv 0) (jP hW rfl z_list jz (ac (pv 3) av)) rfl)))), ?_⟩
 exact vF (K:=K) (ns:=kNames) (c:= .Cart) (sV (sU .name (ag 1)) (sV (sU .speed (ag 2)) (xo .wheels (cSF (kj mx (af (ag 3) ax)))))) rfl rfl h
theorem uo{f:Addr}{fd:FuncData}(F:Fun K "joined" "joined" i6 f fd)(m_Cart:GotP P w K mg base 1 "Cart" ["self","name","speed","wheels"] (eW K))(d_Cart:PKd K kNames (clA K "Cart") ["Cart"] ["name","speed","wheels"]):
 FnOk P w K mg base CX0 3 f fd ["carts"] (jS K):=by
 refine F.ok lr (fun vs H Q E h=>ck h) (fun cdv A outer s H vs Q E hr h=> ?_)
 have hu:=hr.units
 have h:spP K kNames .nw 1 (bg 3 i9) vs H Q E:=by rw[←az (bg 3 i9)];exact h
 refine⟨_,(aC (bN (i:=1) lr.nd rfl (by o_reads) (dC av))
  (aC (eA PassesOwn.never rfl (cr (cA (pv 0)) (cr (cT (pv 0)) (cV (pv 0)))) (cz (i:=2) lr.nd rfl (by o_reads)) (be (dq (i5 PySem.F.plainAttrs_list PySem.F.slot_list_extend PySem.F.type_list_extend oi (pv 1) (ac (bS (f:="wheels") (pv 2) rfl) av)))))
  (be (bR (j4 m_Cart hr (by decide) rfl (ac (bS (f:="name") (cE cB (pv 0) aR (fun _ _=>rfl)) rfl) (ac (bS (f:="speed") (cE cB (pv 0) aR (fun _ _=>rfl)) rfl) (ac (pv 1) av)))))))), ?_⟩
 exact sX (K:=K) (ns:=kNames) (fl':=[]) (n:=3) (b:=i9)
  (bM (jD 1 (dD ax) (by decide))
  (bM (gP (db (ag 0)) (gb 2 rfl)
  (yi 1 (uS (bY .wheels (ag 2))) rfl))
  (zB (kA .Cart d_Cart (af (uS (bY .name (oS (aU cH (ag 0) (aS _))))) (af (uS (bY .speed (oS (aU cH (ag 0) (aS _))))) (af (ag 1) ax))))))) rfl (by decide) h
theorem re{f:Addr}{fd:FuncData}(F:Fun K "_law_cell" "_law_cell" gB f fd)(z_len:mg "len"=none):
 FnOk P w K mg base CX0 1 f fd ["_law_script","_law_k"] (iO K):=by
 refine F.ok qK (fun vs H Q E h=>ck h) (fun cdv A outer s H vs Q E hr h=> ?_)
 have hu:=hr.units
 have h:spP K kNames .no 2 (ba 2 gE) vs H Q E:=by rw[←az (ba 2 gE)];exact h
 refine⟨_,(aC (dZ (eC qu (pv 1) (bK lT rfl z_len ju (ac (pv 0) av)) (dG _)) (be (bR (cE cB (pv 0) (pv 1) (fun _ _=>rfl)))) cy)
  (be (bR aR))), ?_⟩
 exact dE (K:=K) (ns:=kNames) (fl':=[]) (n:=2) (b:=gE)
  (bM (hZ (iK (oS (aU qE (ag 1) (cS (cp gY (af (ag 0) ax)))))) (cJ (oS (aU cH (ag 0) (ag 1))))
  dc)
  (cJ (aS _))) rfl (by decide) h
theorem qf{f:Addr}{fd:FuncData}(F:Fun K "__init__" "Open.__init__" fJ f fd):
 FnOk P w K mg base CX0 1 f fd ["self","length"] (jn K):=by
 refine F.ok pO (fun vs H Q E h=>pL h) (fun cdv A outer s H vs Q E hr h=> ?_)
 have hu:=hr.units
 refine⟨_,(be (gW (f:="length") (pv 0) (pv 1) rfl)), ?_⟩
 exact pK (K:=K) (ns:=kNames) (c:= .Open) (jl .length (ag 1)) rfl rfl h
theorem nF{f:Addr}{fd:FuncData}(F:Fun K "__init__" "Bridge.__init__" d7 f fd):
 FnOk P w K mg base CX0 1 f fd ["self","name","length","bears","wide","most"] (iE K):=by
 refine F.ok nb (fun vs H Q E h=>pL h) (fun cdv A outer s H vs Q E hr h=> ?_)
 have hu:=hr.units
 refine⟨_,(aC (gW (f:="name") (pv 0) (pv 1) rfl)
  (aC (gW (f:="length") (pv 0) (pv 2) rfl)
  (aC (gW (f:="bears") (pv 0) (pv 3) rfl)
  (aC (gW (f:="wide") (pv 0) (pv 4) rfl)
  (be (gW (f:="most") (pv 0) (pv 5) rfl)))))), ?_⟩
 exact pK (K:=K) (ns:=kNames) (c:= .Bridge) (li (jl .name (ag 1)) (li (jl .length (ag 2)) (li (jl .bears (ag 3)) (li (jl .wide (ag 4)) (jl .most (ag 5)))))) rfl rfl h
theorem nS{f:Addr}{fd:FuncData}(F:Fun K "_law_pieces" "_law_pieces" eT f fd)(m_Open:GotP P w K mg base 1 "Open" ["self","length"] (jn K))(d_Open:PKd K kNames (clA K "Open") ["Open"] ["length"])(m_Bridge:GotP P w K mg base 1 "Bridge" ["self","name","length","bears","wide","most"] (iE K))(d_Bridge:PKd K kNames (clA K "Bridge") ["Bridge"] ["name","length","bears","wide","most"]):
 FnOk P w K mg base CX0 3 f fd ["_law_pieces_here"] (iV K):=by
 refine F.ok iU (fun vs H Q E h=>ck h) (fun cdv A outer s H vs Q E hr h=> ?_)
 have hu:=hr.units
 have h:spP K kNames .yes 1 (bg 3 eX) vs H Q E:=by rw[←az (bg 3 eX)];exact h
 refine⟨_,(aC (bN (i:=1) iU.nd rfl (by o_reads) (dC av))
  (aC (eA PassesOwn.never rfl (cr (cA (pv 0)) (cr (cT (pv 0)) (cV (pv 0)))) (cz (i:=2) iU.nd rfl (by o_reads)) (be (dZ (eC (kU hu) (cE cB (pv 2) aR (fun _ _=>rfl)) jd (dG _)) (be (dq (i5 PySem.F.plainAttrs_list PySem.F.slot_list_append PySem.F.type_list_append cZ (pv 1) (ac (j4 m_Open hr (by decide) rfl (ac (cE cB (pv 2) aR (fun _ _=>rfl)) av)) av)))) (be (dq (i5 PySem.F.plainAttrs_list PySem.F.slot_list_append PySem.F.type_list_append cZ (pv 1) (ac (j4 m_Bridge hr (by decide) rfl (ac (cE cB (pv 2) aR (fun _ _=>rfl)) (ac (cE cB (pv 2) aR (fun _ _=>rfl)) (ac (cE cB (pv 2) aR (fun _ _=>rfl)) (ac (cE cB (pv 2) aR (fun _ _=>rfl)) (ac (cE cB (pv 2) aR (fun _ _=>rfl)) av)))))) av)))))))
  (be (bR (pv 1))))), ?_⟩
 exact h6 (K:=K) (ns:=kNames) (fl':=[]) (n:=3) (b:=eX)
  (bM (jD 1 (dD ax) (by decide))
  (bM (gP (db (ag 0)) (gb 2 rfl)
  (hZ (iK (oS (aU ou (oS (aU cH (ag 2) (aS _))) (jh _)))) (mW 1 (pJ .Open d_Open (af (oS (aU cH (ag 2) (aS _))) ax)) rfl)
  (mW 1 (pJ .Bridge d_Bridge (af (oS (aU cH (ag 2) (aS _))) (af (oS (aU cH (ag 2) (aS _))) (af (oS (aU cH (ag 2) (aS _))) (af (oS (aU cH (ag 2) (aS _))) (af (oS (aU cH (ag 2) (aS _))) ax)))))) rfl)))
  (mU 1 rfl))) rfl (by decide) h
theorem qg{f:Addr}{fd:FuncData}(F:Fun K "_law_drawn" "_law_drawn" fM f fd)(g_law_cell:Got P w K mg base 1 "_law_cell" ["_law_script","_law_k"] (iO K))(g_law_wheels:Got P w K mg base 2 "_law_wheels" ["_law_cell_here","_law_many"] (gK K))(g_law_mix:Got P w K mg base 1 "_law_mix" ["_law_cell_here","_law_one","_law_prime"] (gD K))(m_Cart:GotP P w K mg base 1 "Cart" ["self","name","speed","wheels"] (eW K))(d_Cart:PKd K kNames (clA K "Cart") ["Cart"] ["name","speed","wheels"]):
 FnOk P w K mg base CX0 3 f fd ["_law_script","_law_k"] (jo K):=by
 refine F.ok kD (fun vs H Q E h=>ck h) (fun cdv A outer s H vs Q E hr h=> ?_)
 have hu:=hr.units
 have h:spP K kNames .no 2 (ba 3 fR) vs H Q E:=by rw[←az (ba 3 fR)];exact h
 refine⟨_,(aC (bN (i:=2) kD.nd rfl (by o_reads) (bG bW (bT g_law_cell hr (by o_reads) rfl (ac (pv 0) (ac (bG bW aR (pv 1)) av))) (bG jQ aR (pv 1))))
  (be (bR (j4 m_Cart hr (by decide) rfl (ac (cE cB jd (pv 1) (fun _ _=>rfl)) (ac (bG bW aR (bG cK (pv 2) aR)) (ac (bT g_law_wheels hr (by o_reads) rfl (ac (pv 2) (ac (bG bW aR (bG cK (bT g_law_mix hr (by o_reads) rfl (ac (pv 2) (ac aR (ac aR av)))) aR)) av))) av))))))), ?_⟩
 exact dE (K:=K) (ns:=kNames) (fl':=[]) (n:=3) (b:=fR)
  (bM (cx 2 (oS (aU cq (cI (af (ag 0) (af (oS (aU cq (aS _) (ag 1))) ax))) (oS (aU lc (aS _) (ag 1))))))
  (cJ (PuX.pe (kA .Cart d_Cart (af (oS (aU cH (jh _) (ag 1))) (af (oS (aU cq (aS _) (oS (aU cL (ag 2) (aS _))))) (af (PuF.pe (gZ (af (ag 2) (af (oS (aU cq (aS _) (oS (aU cL (cI (af (ag 2) (af (aS _) (af (aS _) ax)))) (aS _))))) ax)))) ax))))))) rfl (by decide) h
theorem nG{f:Addr}{fd:FuncData}(F:Fun K "_law_cart_is" "_law_cart_is" d8 f fd)(g_law_same:Got P w K mg base 14 "_law_same" ["_law_found","_law_due"] (jJ K))(d_Cart:PKd K kNames (clA K "Cart") ["Cart"] ["name","speed","wheels"])(n_Cart:mg "Cart"=some (.ref (clA K "Cart")))(z_isinstance:mg "isinstance"=none):
 FnOk P w K mg base CX0 15 f fd ["_law_cart","_law_name","_law_speed","_law_wheels_here"] (eM K):=by
 refine F.ok nj (fun vs H Q E h=>ck h) (fun cdv A outer s H vs Q E hr h=> ?_)
 have hu:=hr.units
 have h:spP K kNames .no 4 (ba 4 eh) vs H Q E:=by rw[←az (ba 4 eh)];exact h
 refine⟨_,(aC (dZ (ip (da (bK kh rfl z_isinstance cb (ac (pv 0) (ac (uO rfl n_Cart) av))))) (be (bR hJ)) cy)
  (be (bR (bT g_law_same hr (by o_reads) rfl (ac (e9 (ac (bS (f:="name") (pv 0) rfl) (ac (bS (f:="speed") (pv 0) rfl) (ac (bS (f:="wheels") (pv 0) rfl) av)))) (ac (e9 (ac (pv 1) (ac (pv 2) (ac (pv 3) av)))) av)))))), ?_⟩
 exact dE (K:=K) (ns:=kNames) (fl':=[]) (n:=4) (b:=eh)
  (bM (hZ (fZ (eD (cS (pI .Cart (by decide) (ag 0))))) (cJ (iw _))
  dc)
  (cJ (cI (af (fY (af (uS (bY .name (ag 0))) (af (uS (bY .speed (ag 0))) (af (uS (bY .wheels (ag 0))) ax)))) (af (fY (af (ag 1) (af (ag 2) (af (ag 3) ax)))) ax))))) rfl (by decide) h
theorem nT{f:Addr}{fd:FuncData}(F:Fun K "_law_places" "_law_places" dU f fd)(z_sum:mg "sum"=none)(z_range:mg "range"=none)(z_len:mg "len"=none):
 FnOk P w K mg base CX0 1 f fd ["_law_wheels_here"] (iW K):=by
 refine F.ok nN (fun vs H Q E h=>ck h) (fun cdv A outer s H vs Q E hr h=> ?_)
 have hu:=hr.units
 have h:spP K kNames .yes 1 (bg 1 eY) vs H Q E:=by rw[←az (bg 1 eY)];exact h
 refine⟨_,(be (bR (dH ["_law_wheels_here"] [0] (CompC.to lZ rfl rfl) rfl (i3 rfl z_range (ac (bK lT rfl z_len ju (ac (pv 0) av)) av)) (fun _ _ _ _ _=>dQ) (fun _ _ _ _ _=>(bK (mP (K:=K) rfl rfl) rfl z_sum uR (ac (dH [] [] (CompC.to ma rfl rfl) rfl (cr (uZ (K:=K) rfl (ir (wI (K:=K) rfl) (pv 1) (fB aR) (fB (bG (jA (K:=K) rfl) (pv 0) aR)))) (cr (wO (K:=K) rfl (ir (wI (K:=K) rfl) (pv 1) (fB aR) (fB (bG (jA (K:=K) rfl) (pv 0) aR)))) (cV (ir (wI (K:=K) rfl) (pv 1) (fB aR) (fB (bG (jA (K:=K) rfl) (pv 0) aR)))))) (fun _ _ _ _ _=>dQ) (fun _ _ _ _ _=>(cE (gJ (K:=K) rfl) (pv 0) aR (fun _ _=>rfl)))) av)))))), ?_⟩
 exact h6 (K:=K) (ns:=kNames) (fl':=[]) (n:=1) (b:=eY)
  (pE (dw (iS (kq (af (cS (cp gY (af (ag 0) ax))) ax))) fF (cS (cp rM (af (PuF.pe (dw (db (slS (qF (ag 1) (lP (aS _)) (lP (oS (aU cq (ag 0) (aS _))))))) fF (oS (aU cH (ag 0) (aS _))))) ax))))) rfl (by decide) h
theorem qh{f:Addr}{fd:FuncData}(F:Fun K "_law_close" "_law_close" eG f fd)(g_law_places:Got P w K mg base 1 "_law_places" ["_law_wheels_here"] (iW K))(z_range:mg "range"=none)(z_len:mg "len"=none)(z_max:mg "max"=none)(z_sum:mg "sum"=none):
 FnOk P w K mg base CX0 2 f fd ["_law_wheels_here","_law_width","_law_which"] (jp K):=by
 refine F.ok eS (fun vs H Q E h=>ck h) (fun cdv A outer s H vs Q E hr h=> ?_)
 have hu:=hr.units
 have h:spP K kNames .no 3 (ba 7 fS) vs H Q E:=by rw[←az (ba 7 fS)];exact h
 refine⟨_,(aC (bN (i:=3) eS.nd rfl (by o_reads) (bT g_law_places hr (by o_reads) rfl (ac (pv 0) av)))
  (aC (bN (i:=4) eS.nd rfl (by o_reads) aR)
  (aC (eA PassesOwn.never rfl (i3 rfl z_range (ac (bK lT rfl z_len ju (ac (pv 0) av)) av)) (cz (i:=5) eS.nd rfl (by o_reads)) (aC (ki ["_law_k","_law_places_here","_law_wheels_here","_law_which","_law_width"] [5,3,0,2,1] (CompC.to nh rfl rfl) rfl (nZ (by rfl) z_range (ac (pv 5) (ac (bK lT (by rfl) z_len ju (ac (pv 0) av)) av))) (fun _ _ _ _ _=>(pj (eC qu (cE (gJ (K:=K) rfl) (pv 2) (pv 0) (fun _ _=>rfl)) (bG (jA (K:=K) rfl) (cE (gJ (K:=K) rfl) (pv 2) (pv 1) (fun _ _=>rfl)) (pv 5)) (dG _)))) (fun _ _ _ _ _=>(cE (gJ (K:=K) rfl) (cE (gJ (K:=K) rfl) (pv 3) (pv 0) (fun _ _=>rfl)) (pv 4) (fun _ _=>rfl))) 6 eS.nd rfl (by o_reads))
  (be (bN (i:=4) eS.nd rfl (by o_reads) (bK (i4 rfl) rfl z_max mK (ac (pv 4) (ac (bK (iR rfl) rfl z_sum uR (ac (pv 6) av)) av)))))))
  (be (bR (pv 4)))))), ?_⟩
 exact dE (K:=K) (ns:=kNames) (fl':=[]) (n:=7) (b:=fS)
  (bM (cx 3 (PuF.pe (gZ (af (ag 0) ax))))
  (bM (cx 4 (aS _))
  (bM (gP (iS (kq (af (cS (cp gY (af (ag 0) ax))) ax))) (gb 5 rfl)
  (bM (cx 6 (PuF.pe (dw (iS (sG (af (ag 5) (af (cS (cp gY (af (ag 0) ax))) ax)))) (iK (oS (aU qE (oS (aU cH (ag 2) (ag 0))) (oS (aU cq (oS (aU cH (ag 2) (ag 1))) (ag 5)))))) (oS (aU cH (oS (aU cH (ag 3) (ag 0))) (ag 4))))))
  (cx 4 (cS (cp kn (af (ag 4) (af (cS (cp rM (af (ag 6) ax))) ax)))))))
  (cJ (ag 4))))) rfl (by decide) h
theorem nU{f:Addr}{fd:FuncData}(F:Fun K "_law_narrow" "_law_narrow" dW f fd)(g_law_mix:Got P w K mg base 1 "_law_mix" ["_law_cell_here","_law_one","_law_prime"] (gD K))(g_law_close:Got P w K mg base 2 "_law_close" ["_law_wheels_here","_law_width","_law_which"] (jp K))(z_max:mg "max"=none)(z_len:mg "len"=none)(z_min:mg "min"=none):
 FnOk P w K mg base CX0 3 f fd ["_law_cell_here","_law_wheels_here","_law_name"] (iX K):=by
 refine F.ok cM (fun vs H Q E h=>ck h) (fun cdv A outer s H vs Q E hr h=> ?_)
 have hu:=hr.units
 have h:spP K kNames .no 3 (ba 11 eZ) vs H Q E:=by rw[←az (ba 11 eZ)];exact h
 refine⟨_,(aC (bN (i:=3) cM.nd rfl (by o_reads) (bT g_law_mix hr (by o_reads) rfl (ac (pv 0) (ac aR (ac aR av)))))
  (aC (bN (i:=4) cM.nd rfl (by o_reads) (bG cK (bG cU (pv 3) aR) (bK lT rfl z_len ju (ac (pv 1) av))))
  (aC (bN (i:=5) cM.nd rfl (by o_reads) (ir slX (pv 1) (fB (pv 4)) (fB (bG bW (bG bW (pv 4) aR) (bG cK (bG cU (pv 3) aR) aR)))))
  (aC (bN (i:=6) cM.nd rfl (by o_reads) (cE cB (dC (ac aR (ac aR (ac (bG bW aR (bG cK (bG cU (pv 3) aR) aR)) (ac (bG bW aR (bG cK (bG cU (pv 3) aR) aR)) (ac (bG bW aR (bG cK (bG cU (pv 3) aR) aR)) av)))))) (bG cK (pv 3) aR) (fun _ _=>rfl)))
  (aC (bN (i:=7) cM.nd rfl (by o_reads) (cE cB (dC (ac aR (ac aR (ac (bG bW aR (bG cK (bG cU (pv 3) aR) aR)) (ac aR av))))) (bG cK (bG cU (pv 3) aR) aR) (fun _ _=>rfl)))
  (aC (bN (i:=8) cM.nd rfl (by o_reads) (bK (i4 rfl) rfl z_max mK (ac aR (ac (bK (uc rfl) rfl z_max mK (ac (dH [] [] (CompC.to md rfl rfl) rfl (cr (cA (pv 1)) (cr (cT (pv 1)) (cV (pv 1)))) (fun _ _ _ _ _=>dQ) (fun _ _ _ _ _=>(cE (gJ (K:=K) rfl) (pv 0) aR (fun _ _=>rfl)))) av)) av))))
  (aC (bN (i:=9) cM.nd rfl (by o_reads) (bK (i4 rfl) rfl z_max mK (ac (pv 8) (ac (bT g_law_close hr (by o_reads) rfl (ac (pv 5) (ac (pv 6) (ac aR av)))) av))))
  (aC (bN (i:=10) cM.nd rfl (by o_reads) (bG bW (bK (i4 rfl) rfl z_max mK (ac (pv 8) (ac (bT g_law_close hr (by o_reads) rfl (ac (pv 5) (ac (pv 7) (ac aR av)))) av))) (bG cK (bG cU (pv 3) aR) aR)))
  (be (bR (e9 (ac jd (ac (pv 2) (ac (pv 6) (ac (bK (jO rfl) rfl z_min sD (ac (su (z:=10000000) ⟨by decide,by decide,by decide⟩ (by boot_fact)) (ac (pv 9) av))) (ac (pv 7) (ac (bK (jO rfl) rfl z_min sD (ac (su (z:=10000000) ⟨by decide,by decide,by decide⟩ (by boot_fact)) (ac (pv 10) av))) av))))))))))))))))), ?_⟩
 exact dE (K:=K) (ns:=kNames) (fl':=[]) (n:=11) (b:=eZ)
  (bM (cx 3 (cI (af (ag 0) (af (aS _) (af (aS _) ax)))))
  (bM (cx 4 (oS (aU cL (oS (aU cG (ag 3) (aS _))) (cS (cp gY (af (ag 1) ax))))))
  (bM (cx 5 (slS (qF (ag 1) (lP (ag 4)) (lP (oS (aU cq (oS (aU cq (ag 4) (aS _))) (oS (aU cL (oS (aU cG (ag 3) (aS _))) (aS _)))))))))
  (bM (cx 6 (oS (aU cH (PuF.pe (dD (af (aS _) (af (aS _) (af (oS (aU cq (aS _) (oS (aU cL (oS (aU cG (ag 3) (aS _))) (aS _))))) (af (oS (aU cq (aS _) (oS (aU cL (oS (aU cG (ag 3) (aS _))) (aS _))))) (af (oS (aU cq (aS _) (oS (aU cL (oS (aU cG (ag 3) (aS _))) (aS _))))) ax))))))) (oS (aU cL (ag 3) (aS _))))))
  (bM (cx 7 (oS (aU cH (PuF.pe (dD (af (aS _) (af (aS _) (af (oS (aU cq (aS _) (oS (aU cL (oS (aU cG (ag 3) (aS _))) (aS _))))) (af (aS _) ax)))))) (oS (aU cL (oS (aU cG (ag 3) (aS _))) (aS _))))))
  (bM (cx 8 (cS (cp kn (af (aS _) (af (cS (cp sS (af (PuF.pe (dw (db (ag 1)) fF (oS (aU cH (ag 0) (aS _))))) ax))) ax)))))
  (bM (cx 9 (cS (cp kn (af (ag 8) (af (cI (af (ag 5) (af (ag 6) (af (aS _) ax)))) ax)))))
  (bM (cx 10 (oS (aU cq (cS (cp kn (af (ag 8) (af (cI (af (ag 5) (af (ag 7) (af (aS _) ax)))) ax)))) (oS (aU cL (oS (aU cG (ag 3) (aS _))) (aS _))))))
  (cJ (fY (af (jh _) (af (ag 2) (af (ag 6) (af (cS (cp mw (af (aS _) (af (ag 9) ax)))) (af (ag 7) (af (cS (cp mw (af (aS _) (af (ag 10) ax)))) ax)))))))))))))))) rfl (by decide) h
theorem mf{f:Addr}{fd:FuncData}(F:Fun K "over_by_name" "over_by_name" df f fd)(g_bridges_of:Got P w K mg base 1 "bridges_of" ["road"] (fq K))(z_dict:mg "dict"=none)(z_zip:mg "zip"=none):
 FnOk P w K mg base CX0 2 f fd ["road","way"] (g6 K):=by
 refine F.ok lX (fun vs H Q E h=>ck h) (fun cdv A outer s H vs Q E hr h=> ?_)
 have hu:=hr.units
 have h:spP K kNames .no 2 (ba 2 dL) vs H Q E:=by rw[←az (ba 2 dL)];exact h
 refine⟨_,(be (bR (xk rfl rfl z_dict rfl z_zip (ac (dH [] [] (CompC.to kC rfl rfl) rfl (cr (cA (bT g_bridges_of hr (by o_reads) rfl (ac (pv 0) av))) (cr (cT (bT g_bridges_of hr (by o_reads) rfl (ac (pv 0) av))) (cV (bT g_bridges_of hr (by o_reads) rfl (ac (pv 0) av))))) (fun _ _ _ _ _=>dQ) (fun _ _ _ _ _=>(mr (K:=K) rfl (f:="name") (pv 0) rfl))) (ac (pv 1) av))))), ?_⟩
 exact dE (K:=K) (ns:=kNames) (fl':=[]) (n:=2) (b:=dL)
  (cJ (cS (xl (af (PuF.pe (dw (db (PuF.pe (gZ (af (ag 0) ax)))) fF (uS (bY .name (ag 0))))) (af (ag 1) ax))))) rfl (by decide) h
theorem mh{f:Addr}{fd:FuncData}(F:Fun K "length_along" "length_along" dJ f fd)(g_round_of:Got P w K mg base 1 "round_of" ["road","name"] (iN K))(d_Open:PKd K kNames (clA K "Open") ["Open"] ["length"])(n_Open:mg "Open"=some (.ref (clA K "Open")))(z_isinstance:mg "isinstance"=none):
 FnOk P w K mg base CX0 2 f fd ["road","piece","over"] (g9 K):=by
 refine F.ok lY (fun vs H Q E h=>ck h) (fun cdv A outer s H vs Q E hr h=> ?_)
 have hu:=hr.units
 have h:spP K kNames .no 3 (ba 3 cO) vs H Q E:=by rw[←az (ba 3 cO)];exact h
 refine⟨_,(aC (dZ (PW.pt (xK (da (bK kh rfl z_isinstance cb (ac (pv 1) (ac (uO rfl n_Open) av)))) (ut (da (sE (hu1 hu) (pv 2) (bS (f:="name") (pv 1) rfl) (fun _ _=>rfl)))))) (be (bR (bS (f:="length") (pv 1) rfl))) cy)
  (be (bR (bT g_round_of hr (by o_reads) rfl (ac (pv 0) (ac (bS (f:="name") (pv 1) rfl) av)))))), ?_⟩
 exact dE (K:=K) (ns:=kNames) (fl':=[]) (n:=3) (b:=cO)
  (bM (hZ (u6 (eD (cS (pI .Open (by decide) (ag 1)))) (eD (oS (sP (ag 2) (uS (bY .name (ag 1))))))) (cJ (uS (bY .length (ag 1))))
  dc)
  (cJ (cI (af (ag 0) (af (uS (bY .name (ag 1))) ax))))) rfl (by decide) h
theorem rZ{f:Addr}{fd:FuncData}(F:Fun K "legs_of" "legs_of" ic f fd)(g_over_by_name:Got P w K mg base 2 "over_by_name" ["road","way"] (g6 K))(g_length_along:Got P w K mg base 2 "length_along" ["road","piece","over"] (g9 K))(d_Bridge:PKd K kNames (clA K "Bridge") ["Bridge"] ["name","length","bears","wide","most"])(n_Bridge:mg "Bridge"=some (.ref (clA K "Bridge")))(z_isinstance:mg "isinstance"=none):
 FnOk P w K mg base CX0 3 f fd ["road","way"] (j8 K):=by
 refine F.ok gA (fun vs H Q E h=>ck h) (fun cdv A outer s H vs Q E hr h=> ?_)
 have hu:=hr.units
 have h:spP K kNames .yes 2 (bg 6 il) vs H Q E:=by rw[←az (bg 6 il)];exact h
 refine⟨_,(aC (bN (i:=2) gA.nd rfl (by o_reads) (bT g_over_by_name hr (by o_reads) rfl (ac (pv 0) (ac (pv 1) av))))
  (aC (bN (i:=3) gA.nd rfl (by o_reads) (dC av))
  (aC (bN (i:=4) gA.nd rfl (by o_reads) aR)
  (aC (eA PassesOwn.never rfl (cr (cA (bS (f:="pieces") (pv 0) rfl)) (cr (cT (bS (f:="pieces") (pv 0) rfl)) (cV (bS (f:="pieces") (pv 0) rfl)))) (cz (i:=5) gA.nd rfl (by o_reads)) (aC (dZ (PW.pt (mE (da (bK kh rfl z_isinstance cb (ac (pv 5) (ac (uO rfl n_Bridge) av)))) (ka (da (sE (hu1 hu) (pv 2) (bS (f:="name") (pv 5) rfl) (fun _ _=>rfl)))))) (be (dq (i5 PySem.F.plainAttrs_list PySem.F.slot_list_append PySem.F.type_list_append cZ (pv 3) (ac (e9 (ac (pv 5) (ac (pv 4) av))) av)))) cy)
  (be (bN (i:=4) gA.nd rfl (by o_reads) (bG bW (pv 4) (bT g_length_along hr (by o_reads) rfl (ac (pv 0) (ac (pv 5) (ac (pv 2) av)))))))))
  (be (bR (pv 3))))))), ?_⟩
 exact h6 (K:=K) (ns:=kNames) (fl':=[]) (n:=6) (b:=il)
  (bM (cx 2 (cI (af (ag 0) (af (ag 1) ax))))
  (bM (jD 3 (dD ax) (by decide))
  (bM (cx 4 (aS _))
  (bM (gP (db (uS (bY .pieces (ag 0)))) (gb 5 rfl)
  (bM (hZ (km (eD (cS (pI .Bridge (by decide) (ag 5)))) (eD (oS (sP (ag 2) (uS (bY .name (ag 5))))))) (mW 3 (fY (af (ag 5) (af (ag 4) ax))) rfl)
  dc)
  (cx 4 (oS (aU cq (ag 4) (cI (af (ag 0) (af (ag 5) (af (ag 2) ax)))))))))
  (mU 3 rfl))))) rfl (by decide) h
theorem lK{f:Addr}{fd:FuncData}(F:Fun K "bridges_along" "bridges_along" cP f fd)(g_legs_of:Got P w K mg base 3 "legs_of" ["road","way"] (j8 K)):
 FnOk P w K mg base CX0 4 f fd ["road","way"] (gF K):=by
 refine F.ok lv (fun vs H Q E h=>ck h) (fun cdv A outer s H vs Q E hr h=> ?_)
 have hu:=hr.units
 have h:spP K kNames .yes 2 (bg 2 dh) vs H Q E:=by rw[←az (bg 2 dh)];exact h
 refine⟨_,(be (bR (dH [] [] (CompC.to j5 rfl rfl) rfl (cr (cA (bT g_legs_of hr (by o_reads) rfl (ac (pv 0) (ac (pv 1) av)))) (cr (cT (bT g_legs_of hr (by o_reads) rfl (ac (pv 0) (ac (pv 1) av)))) (cV (bT g_legs_of hr (by o_reads) rfl (ac (pv 0) (ac (pv 1) av)))))) (fun _ _ _ _ _=>dQ) (fun _ _ _ _ _=>(cE (gJ (K:=K) rfl) (pv 0) aR (fun _ _=>rfl)))))), ?_⟩
 exact h6 (K:=K) (ns:=kNames) (fl':=[]) (n:=2) (b:=dh)
  (pE (dw (db (PuF.pe (gZ (af (ag 0) (af (ag 1) ax))))) fF (oS (aU cH (ag 0) (aS _))))) rfl (by decide) h
theorem mj{f:Addr}{fd:FuncData}(F:Fun K "greatest_sum" "greatest_sum" de f fd)(z_enumerate:mg "enumerate"=none)(z_max:mg "max"=none)(z_sum:mg "sum"=none)(z_range:mg "range"=none)(z_len:mg "len"=none):
 FnOk P w K mg base CX0 1 f fd ["weights","offsets","width"] (hG K):=by
 refine F.ok d3 (fun vs H Q E h=>ck h) (fun cdv A outer s H vs Q E hr h=> ?_)
 have hu:=hr.units
 have h:spP K kNames .no 3 (ba 7 dN) vs H Q E:=by rw[←az (ba 7 dN)];exact h
 refine⟨_,(aC (bN (i:=3) d3.nd rfl (by o_reads) (dC av))
  (aC (eA PassesOwn.never rfl (mo (by rfl) z_enumerate (ac (pv 1) av)) (mG rfl (ff (cz (i:=4) d3.nd rfl (by o_reads)) (ff (cz (i:=5) d3.nd rfl (by o_reads)) kb))) (aC (ki ["offset","offsets","weights","width"] [5,1,0,2] (CompC.to kB rfl rfl) rfl (nZ (by rfl) z_range (ac (pv 4) (ac (bK lT (by rfl) z_len ju (ac (pv 1) av)) av))) (fun _ _ _ _ _=>(pj (eC qu (bG kP (cE (gJ (K:=K) rfl) (pv 2) (pv 0) (fun _ _=>rfl)) (pv 1)) (pv 4) (dG _)))) (fun _ _ _ _ _=>(cE (gJ (K:=K) rfl) (pv 3) (pv 0) (fun _ _=>rfl))) 6 d3.nd rfl (by o_reads))
  (be (dq (i5 PySem.F.plainAttrs_list PySem.F.slot_list_append PySem.F.type_list_append cZ (pv 3) (ac (bK (iR rfl) rfl z_sum uR (ac (pv 6) av)) av))))))
  (be (bR (w6 rfl rfl z_max (ac (pv 3) av) aR))))), ?_⟩
 exact dE (K:=K) (ns:=kNames) (fl':=[]) (n:=7) (b:=dN)
  (bM (jD 3 (dD ax) (by decide))
  (bM (gP (iS (kr (af (ag 1) ax))) (sI (iM (i:=4) rfl (iM (i:=5) rfl pF)))
  (bM (cx 6 (PuF.pe (dw (iS (sG (af (ag 4) (af (cS (cp gY (af (ag 1) ax))) ax)))) (iK (oS (aU qE (oS (aU lb (oS (aU cH (ag 2) (ag 0))) (ag 1))) (ag 4)))) (oS (aU cH (ag 3) (ag 0))))))
  (mW 3 (cS (cp rM (af (ag 6) ax))) rfl)))
  (cJ (cS (cp sS (af (ag 3) ax)))))) rfl (by decide) h
theorem nV{f:Addr}{fd:FuncData}(F:Fun K "offsets_of" "offsets_of" eP f fd):
 FnOk P w K mg base CX0 1 f fd ["wheels"] (iY K):=by
 refine F.ok iT (fun vs H Q E h=>ck h) (fun cdv A outer s H vs Q E hr h=> ?_)
 have hu:=hr.units
 have h:spP K kNames .yes 1 (bg 3 e7) vs H Q E:=by rw[←az (bg 3 e7)];exact h
 refine⟨_,(aC (bN (i:=1) iT.nd rfl (by o_reads) (dC av))
  (aC (eA PassesOwn.never rfl (cr (cA (pv 0)) (cr (cT (pv 0)) (cV (pv 0)))) (cz (i:=2) iT.nd rfl (by o_reads)) (be (dq (i5 PySem.F.plainAttrs_list PySem.F.slot_list_append PySem.F.type_list_append cZ (pv 1) (ac (uu (uz (pv 1) (fun _=>rfl)) (bG bW (cE cB (pv 1) (zQ yB aR) (fun _ _=>rfl)) (cE cB (pv 2) aR (fun _ _=>rfl))) aR) av)))))
  (be (bR (pv 1))))), ?_⟩
 exact h6 (K:=K) (ns:=kNames) (fl':=[]) (n:=3) (b:=e7)
  (bM (jD 1 (dD ax) (by decide))
  (bM (gP (db (ag 0)) (gb 2 rfl)
  (zm 1 (Ax (zb (ag 1)) (oS (aU cq (oS (aU cH (ag 1) (uS (Aw wS (aS _))))) (oS (aU cH (ag 2) (aS _))))) (aS _)) rfl))
  (mU 1 rfl))) rfl (by decide) h
theorem rg{f:Addr}{fd:FuncData}(F:Fun K "heaviest" "heaviest" fG f fd)(g_greatest_sum:Got P w K mg base 1 "greatest_sum" ["weights","offsets","width"] (hG K))(g_offsets_of:Got P w K mg base 1 "offsets_of" ["wheels"] (iY K)):
 FnOk P w K mg base CX0 2 f fd ["wheels","width"] (jL K):=by
 refine F.ok qJ (fun vs H Q E h=>ck h) (fun cdv A outer s H vs Q E hr h=> ?_)
 have hu:=hr.units
 have h:spP K kNames .no 2 (ba 2 gG) vs H Q E:=by rw[←az (ba 2 gG)];exact h
 refine⟨_,(be (bR (bT g_greatest_sum hr (by o_reads) rfl (ac (dH [] [] (CompC.to nL rfl rfl) rfl (cr (cA (pv 0)) (cr (cT (pv 0)) (cV (pv 0)))) (fun _ _ _ _ _=>dQ) (fun _ _ _ _ _=>(cE (gJ (K:=K) rfl) (pv 0) aR (fun _ _=>rfl)))) (ac (bT g_offsets_of hr (by o_reads) rfl (ac (pv 0) av)) (ac (pv 1) av)))))), ?_⟩
 exact dE (K:=K) (ns:=kNames) (fl':=[]) (n:=2) (b:=gG)
  (cJ (cI (af (PuF.pe (dw (db (ag 0)) fF (oS (aU cH (ag 0) (aS _))))) (af (PuF.pe (gZ (af (ag 0) ax))) (af (ag 1) ax))))) rfl (by decide) h
theorem xJ{f:Addr}{fd:FuncData}(F:Fun K "fits" "fits" ls f fd)(g_heaviest:Got P w K mg base 2 "heaviest" ["wheels","width"] (jL K)):
 FnOk P w K mg base CX0 3 f fd ["bridge","wheels"] (kF K):=by
 refine F.ok xt (fun vs H Q E h=>ck h) (fun cdv A outer s H vs Q E hr h=> ?_)
 have hu:=hr.units
 have h:spP K kNames .no 2 (ba 2 lA) vs H Q E:=by rw[←az (ba 2 lA)];exact h
 refine⟨_,(be (bR (kM (jN xO (bT g_heaviest hr (by o_reads) rfl (ac (pv 1) (ac (bS (f:="length") (pv 0) rfl) av))) (bS (f:="bears") (pv 0) rfl) (dG _)) (mF (jN xO (bT g_heaviest hr (by o_reads) rfl (ac (pv 1) (ac (bS (f:="wide") (pv 0) rfl) av))) (bS (f:="most") (pv 0) rfl) (dG _)))))), ?_⟩
 exact dE (K:=K) (ns:=kNames) (fl':=[]) (n:=2) (b:=lA)
  (cJ (kY (oS (aU ye (cI (af (ag 1) (af (uS (bY .length (ag 0))) ax))) (uS (bY .bears (ag 0))))) (oS (aU ye (cI (af (ag 1) (af (uS (bY .wide (ag 0))) ax))) (uS (bY .most (ag 0))))))) rfl (by decide) h
theorem lL{f:Addr}{fd:FuncData}(F:Fun K "refuse_wheels" "refuse_wheels" dg f fd)(g_fits:Got P w K mg base 3 "fits" ["bridge","wheels"] (kF K))(z_enumerate:mg "enumerate"=none):
 FnOk P w K mg base CX0 4 f fd ["bridges","wheels"] (gH K):=by
 refine F.ok eQ (fun vs H Q E h=>ck h) (fun cdv A outer s H vs Q E hr h=> ?_)
 have hu:=hr.units
 have h:spP K kNames .no 2 (ba 5 cQ) vs H Q E:=by rw[←az (ba 5 cQ)];exact h
 refine⟨_,(be (eA PassesOwn.never rfl (mo (by rfl) z_enumerate (ac (pv 1) av)) (mG rfl (ff (cz (i:=2) eQ.nd rfl (by o_reads)) (ff (cz (i:=3) eQ.nd rfl (by o_reads)) kb))) (be (eA PassesOwn.never rfl (cr (cA (pv 0)) (cr (cT (pv 0)) (cV (pv 0)))) (cz (i:=4) eQ.nd rfl (by o_reads)) (be (dZ (ip (da (bT g_fits hr (by o_reads) rfl (ac (pv 4) (ac (dC (ac (pv 3) av)) av))))) (be zv) cy)))))), ?_⟩
 exact dE (K:=K) (ns:=kNames) (n:=5) (b:=cQ)
  (gP (iS (kr (af (ag 1) ax))) (sI (iM (i:=2) rfl (iM (i:=3) rfl pF)))
  (gP (db (ag 0)) (gb 4 rfl)
  (hZ (fZ (eD (cI (af (ag 4) (af (PuF.pe (dD (af (ag 3) ax))) ax))))) xm
  dc))) rfl (by decide) h
theorem qi{f:Addr}{fd:FuncData}(F:Fun K "fits_each" "fits_each" eF f fd)(g_fits:Got P w K mg base 3 "fits" ["bridge","wheels"] (kF K))(z_all:mg "all"=none):
 FnOk P w K mg base CX0 4 f fd ["bridges","wheels"] (jq K):=by
 refine F.ok pS (fun vs H Q E h=>ck h) (fun cdv A outer s H vs Q E hr h=> ?_)
 have hu:=hr.units
 have h:spP K kNames .no 2 (ba 2 fT) vs H Q E:=by rw[←az (ba 2 fT)];exact h
 refine⟨_,(be (bR (bK (gI rfl) rfl z_all sy (ac (dH ["wheels"] [1] (CompC.to nc rfl rfl) rfl (cr (cA (pv 0)) (cr (cT (pv 0)) (cV (pv 0)))) (fun _ _ _ _ _=>dQ) (fun _ _ _ _ _=>(lj g_fits (by rfl) (by rfl) (by rfl) (by rfl) (by rfl) (by exact hr) (by o_reads) rfl (ac (pv 0) (ac (pv 1) av))))) av)))), ?_⟩
 exact dE (K:=K) (ns:=kNames) (fl':=[]) (n:=2) (b:=fT)
  (cJ (cS (cp pB (af (PuF.pe (dw (db (ag 0)) fF (cI (af (ag 0) (af (ag 1) ax))))) ax)))) rfl (by decide) h
theorem r6{f:Addr}{fd:FuncData}(F:Fun K "run_end" "run_end" ie f fd)(g_fits_each:Got P w K mg base 4 "fits_each" ["bridges","wheels"] (jq K))(z_len:mg "len"=none):
 FnOk P w K mg base CX0 5 f fd ["bridges","wheels","first"] (j9 K):=by
 refine F.ok j6 (fun vs H Q E h=>ck h) (fun cdv A outer s H vs Q E hr h=> ?_)
 have hu:=hr.units
 have h:spP K kNames .no 3 (ba 4 im) vs H Q E:=by rw[←az (ba 4 im)];exact h
 refine⟨_,(aC (bN (i:=3) j6.nd rfl (by o_reads) (bG bW (pv 2) aR))
  (aC (qr PassesOwn.never (PW.pt (mE (eC qu (pv 3) (bK lT rfl z_len ju (ac (pv 1) av)) (dG _)) (ka (da (bT g_fits_each hr (by o_reads) rfl (ac (pv 0) (ac (ir slX (pv 1) (fB (pv 2)) (fB (bG bW (pv 3) aR))) av))))))) (be (bN (i:=3) j6.nd rfl (by o_reads) (bG bW (pv 3) aR))))
  (be (bR (pv 3))))), ?_⟩
 exact dE (K:=K) (ns:=kNames) (fl':=[]) (n:=4) (b:=im)
  (bM (cx 3 (oS (aU cq (ag 2) (aS _))))
  (bM (wY (km (iK (oS (aU qE (ag 3) (cS (cp gY (af (ag 1) ax)))))) (eD (cI (af (ag 0) (af (slS (qF (ag 1) (lP (ag 2)) (lP (oS (aU cq (ag 3) (aS _)))))) ax)))))
  (cx 3 (oS (aU cq (ag 3) (aS _)))))
  (cJ (ag 3)))) rfl (by decide) h
theorem uq{f:Addr}{fd:FuncData}(F:Fun K "parted" "parted" i7 f fd)(g_bridges_along:Got P w K mg base 4 "bridges_along" ["road","way"] (gF K))(g_refuse_wheels:Got P w K mg base 4 "refuse_wheels" ["bridges","wheels"] (gH K))(g_run_end:Got P w K mg base 5 "run_end" ["bridges","wheels","first"] (j9 K))(m_Cart:GotP P w K mg base 1 "Cart" ["self","name","speed","wheels"] (eW K))(d_Cart:PKd K kNames (clA K "Cart") ["Cart"] ["name","speed","wheels"])(z_len:mg "len"=none):
 FnOk P w K mg base CX0 6 f fd ["road","cart","way"] (jT K):=by
 refine F.ok ig (fun vs H Q E h=>ck h) (fun cdv A outer s H vs Q E hr h=> ?_)
 have hu:=hr.units
 have h:spP K kNames .nw 3 (bg 7 jc) vs H Q E:=by rw[←az (bg 7 jc)];exact h
 refine⟨_,(aC (bN (i:=3) ig.nd rfl (by o_reads) (bT g_bridges_along hr (by o_reads) rfl (ac (pv 0) (ac (pv 2) av))))
  (aC (dq (bT g_refuse_wheels hr (by o_reads) rfl (ac (pv 3) (ac (bS (f:="wheels") (pv 1) rfl) av))))
  (aC (bN (i:=4) ig.nd rfl (by o_reads) (dC av))
  (aC (bN (i:=5) ig.nd rfl (by o_reads) aR)
  (aC (qr PassesOwn.never (eC qu (pv 5) (bK lT rfl z_len ju (ac (bS (f:="wheels") (pv 1) rfl) av)) (dG _)) (aC (bN (i:=6) ig.nd rfl (by o_reads) (bT g_run_end hr (by o_reads) rfl (ac (pv 3) (ac (bS (f:="wheels") (pv 1) rfl) (ac (pv 5) av)))))
  (aC (dq (i5 PySem.F.plainAttrs_list PySem.F.slot_list_append PySem.F.type_list_append cZ (pv 4) (ac (j4 m_Cart hr (by decide) rfl (ac (bS (f:="name") (pv 1) rfl) (ac (bS (f:="speed") (pv 1) rfl) (ac (ir slX (bS (f:="wheels") (pv 1) rfl) (fB (pv 5)) (fB (pv 6))) av)))) av)))
  (be (bN (i:=5) ig.nd rfl (by o_reads) (pv 6))))))
  (be (bR (pv 4)))))))), ?_⟩
 exact sX (K:=K) (ns:=kNames) (fl':=[]) (n:=7) (b:=jc)
  (bM (cx 3 (PuF.pe (gZ (af (ag 0) (af (ag 2) ax)))))
  (bM (zi (cI (af (ag 3) (af (uS (bY .wheels (ag 1))) ax))))
  (zA (jD 4 (dD ax) (by decide))
  (sW (vI 5 (aS _) rfl (by decide))
  (sW (xq (iK (oS (aU qE (ag 5) (cS (cp gY (af (uS (bY .wheels (ag 1))) ax))))))
  (sW (vI 6 (cI (af (ag 3) (af (uS (bY .wheels (ag 1))) (af (ag 5) ax)))) rfl (by decide))
  (sW (AH (kA .Cart d_Cart (af (uS (bY .name (ag 1))) (af (uS (bY .speed (ag 1))) (af (slS (qF (uS (bY .wheels (ag 1))) (lP (ag 5)) (lP (ag 6)))) ax)))))
  (vI 5 (ag 6) rfl (by decide)))))
  AI)) rfl))) rfl (by decide) h
theorem qj{f:Addr}{fd:FuncData}(F:Fun K "_law_asked" "_law_asked" dP f fd)(g_parted:Got P w K mg base 6 "parted" ["road","cart","way"] (jT K))(g_law_cart_is:Got P w K mg base 15 "_law_cart_is" ["_law_cart","_law_name","_law_speed","_law_wheels_here"] (eM K))(g_bridges_of:Got P w K mg base 1 "bridges_of" ["road"] (fq K))(g_joined:Got P w K mg base 3 "joined" ["carts"] (jS K))(g_fits:Got P w K mg base 3 "fits" ["bridge","wheels"] (kF K))(z_enumerate:mg "enumerate"=none)(z_all:mg "all"=none)(z_len:mg "len"=none)(z_max:mg "max"=none):
 FnOk P w K mg base CX0 16 f fd ["_law_road","_law_cart","_law_way"] (jr K):=by
 refine F.ok cW (fun vs H Q E h=>ck h) (fun cdv A outer s H vs Q E hr h=> ?_)
 have hu:=hr.units
 have h:spP K kNames .no 3 (ba 10 fV) vs H Q E:=by rw[←az (ba 10 fV)];exact h
 refine⟨_,(aC (bN (i:=3) cW.nd rfl (by o_reads) (bT g_parted hr (by o_reads) rfl (ac (pv 0) (ac (pv 1) (ac (pv 2) av)))))
  (aC (dZ (ip (da (bT g_law_cart_is hr (by o_reads) rfl (ac (bT g_joined hr (by o_reads) rfl (ac (pv 3) av)) (ac (bS (f:="name") (pv 1) rfl) (ac (bS (f:="speed") (pv 1) rfl) (ac (bS (f:="wheels") (pv 1) rfl) av))))))) (be (bR hJ)) cy)
  (aC (bN (i:=4) cW.nd rfl (by o_reads) (dC av))
  (aC (eA PassesOwn.never rfl (mo (by rfl) z_enumerate (ac (bT g_bridges_of hr (by o_reads) rfl (ac (pv 0) av)) av)) (mG rfl (ff (cz (i:=5) cW.nd rfl (by o_reads)) (ff (cz (i:=6) cW.nd rfl (by o_reads)) kb))) (be (dZ (da (cE cB (pv 2) (pv 5) (fun _ _=>rfl))) (be (dq (i5 PySem.F.plainAttrs_list PySem.F.slot_list_append PySem.F.type_list_append cZ (pv 4) (ac (pv 6) av)))) cy)))
  (aC (eA PassesOwn.never rfl (mo (by rfl) z_enumerate (ac (pv 3) av)) (mG rfl (ff (cz (i:=5) cW.nd rfl (by o_reads)) (ff (cz (i:=7) cW.nd rfl (by o_reads)) kb))) (aC (dZ (ip (da (bK (gI rfl) rfl z_all sy (ac (dH ["_law_one"] [7] (CompC.to nk rfl rfl) rfl (cr (cA (pv 4)) (cr (cT (pv 4)) (cV (pv 4)))) (fun _ _ _ _ _=>dQ) (fun _ _ _ _ _=>(lj g_fits (by rfl) (by rfl) (by rfl) (by rfl) (by rfl) (by exact hr) (by o_reads) rfl (ac (pv 0) (ac (mr (K:=K) rfl (f:="wheels") (pv 1) rfl) av))))) av)))) (be (bR hJ)) cy)
  (aC (bN (i:=8) cW.nd rfl (by o_reads) (bG bW (bS (f:="wheels") (cE cB (pv 3) (bK (i4 rfl) rfl z_max mK (ac aR (ac (bG kP (pv 5) aR) av))) (fun _ _=>rfl)) rfl) (bS (f:="wheels") (pv 7) rfl)))
  (aC (dZ (PW.pt (mE (eC xP (pv 5) aR (dG _)) (ka (da (bK (gI rfl) rfl z_all sy (ac (dH ["_law_both"] [8] (CompC.to nr rfl rfl) rfl (cr (cA (pv 4)) (cr (cT (pv 4)) (cV (pv 4)))) (fun _ _ _ _ _=>dQ) (fun _ _ _ _ _=>(lj g_fits (by rfl) (by rfl) (by rfl) (by rfl) (by rfl) (by exact hr) (by o_reads) rfl (ac (pv 0) (ac (pv 1) av))))) av)))))) (be (bR hJ)) cy)
  (aC (bN (i:=9) cW.nd rfl (by o_reads) (bT g_parted hr (by o_reads) rfl (ac (pv 0) (ac (pv 7) (ac (pv 2) av)))))
  (aC (dZ (eC (uL hu) (bK lT rfl z_len ju (ac (pv 9) av)) aR (dG _)) (be (bR hJ)) cy)
  (be (dZ (ip (da (bT g_law_cart_is hr (by o_reads) rfl (ac (cE cB (pv 9) aR (fun _ _=>rfl)) (ac (bS (f:="name") (pv 1) rfl) (ac (bS (f:="speed") (pv 1) rfl) (ac (bS (f:="wheels") (pv 7) rfl) av))))))) (be (bR hJ)) cy))))))))
  (be (bR hJ))))))), ?_⟩
 exact dE (K:=K) (ns:=kNames) (fl':=[]) (n:=10) (b:=fV)
  (bM (cx 3 (PuX.pe (jI (af (ag 0) (af (ag 1) (af (ag 2) ax))))))
  (bM (hZ (fZ (eD (cI (af (PuX.pe (jI (af (ag 3) ax))) (af (uS (bY .name (ag 1))) (af (uS (bY .speed (ag 1))) (af (uS (bY .wheels (ag 1))) ax))))))) (cJ (iw _))
  dc)
  (bM (jD 4 (dD ax) (by decide))
  (bM (gP (iS (kr (af (PuF.pe (gZ (af (ag 0) ax))) ax))) (sI (iM (i:=5) rfl (iM (i:=6) rfl pF)))
  (hZ (eD (oS (aU cH (ag 2) (ag 5)))) (mW 4 (ag 6) rfl)
  dc))
  (bM (vg [4] (gP (iS (kr (af (ag 3) ax))) (sI (iM (i:=5) rfl (iM (i:=7) rfl pF)))
  (bM (hZ (fZ (eD (cS (cp pB (af (PuF.pe (dw (db (ag 4)) fF (cI (af (ag 0) (af (uS (bY .wheels (ag 1))) ax))))) ax))))) (cJ (iw _))
  dc)
  (bM (cx 8 (oS (aU cq (uS (bY .wheels (oS (aU cH (ag 3) (cS (cp kn (af (aS _) (af (oS (aU lb (ag 5) (aS _))) ax)))))))) (uS (bY .wheels (ag 7))))))
  (bM (hZ (km (iK (oS (aU yf (ag 5) (aS _)))) (eD (cS (cp pB (af (PuF.pe (dw (db (ag 4)) fF (cI (af (ag 0) (af (ag 1) ax))))) ax))))) (cJ (iw _))
  dc)
  (bM (cx 9 (PuX.pe (jI (af (ag 0) (af (ag 7) (af (ag 2) ax))))))
  (bM (hZ (iK (oS (aU yg (cS (cp gY (af (ag 9) ax))) (aS _)))) (cJ (iw _))
  dc)
  (hZ (fZ (eD (cI (af (oS (aU cH (ag 9) (aS _))) (af (uS (bY .name (ag 1))) (af (uS (bY .speed (ag 1))) (af (uS (bY .wheels (ag 7))) ax))))))) (cJ (iw _))
  dc))))))))
  (cJ (iw _))))))) rfl (by decide) h
theorem nH{f:Addr}{fd:FuncData}(F:Fun K "_law_changed" "_law_changed" cX f fd)(g_parted:Got P w K mg base 6 "parted" ["road","cart","way"] (jT K))(g_law_same:Got P w K mg base 14 "_law_same" ["_law_found","_law_due"] (jJ K))(g_law_cart_is:Got P w K mg base 15 "_law_cart_is" ["_law_cart","_law_name","_law_speed","_law_wheels_here"] (eM K)):
 FnOk P w K mg base CX0 16 f fd ["_law_road","_law_cart","_law_way","_law_wheels_here"] (iG K):=by
 refine F.ok gf (fun vs H Q E h=>ck h) (fun cdv A outer s H vs Q E hr h=> ?_)
 have hu:=hr.units
 have h:spP K kNames .no 4 (ba 7 eu) vs H Q E:=by rw[←az (ba 7 eu)];exact h
 refine⟨_,(aC (ki [] [] (CompC.to lx rfl rfl) rfl (cr (cA (bT g_parted hr (by o_reads) (by rfl) (ac (pv 0) (ac (pv 1) (ac (pv 2) av))))) (cr (cT (bT g_parted hr (by o_reads) (by rfl) (ac (pv 0) (ac (pv 1) (ac (pv 2) av))))) (cV (bT g_parted hr (by o_reads) (by rfl) (ac (pv 0) (ac (pv 1) (ac (pv 2) av))))))) (fun _ _ _ _ _=>dQ) (fun _ _ _ _ _=>(ir (wI (K:=K) rfl) (mr (K:=K) rfl (f:="wheels") (pv 0) rfl) sr sr)) 4 gf.nd rfl (by o_reads))
  (aC (bN (i:=5) gf.nd rfl (by o_reads) (bT g_parted hr (by o_reads) rfl (ac (pv 0) (ac (pv 1) (ac (pv 2) av)))))
  (aC (eA PassesOwn.never rfl (cr (cA (pv 5)) (cr (cT (pv 5)) (cV (pv 5)))) (cz (i:=6) gf.nd rfl (by o_reads)) (aC (dq (i5 PySem.F.plainAttrs_list PySem.F.slot_list_append PySem.F.type_list_append cZ (bS (f:="wheels") (pv 6) rfl) (ac (e9 (ac aR (ac aR (ac aR av)))) av)))
  (be (dq (rE PySem.F.plainAttrs_list PySem.F.slot_list_reverse PySem.F.type_list_reverse j0 (bS (f:="wheels") (pv 6) rfl))))))
  (aC (dZ (ip (da (bT g_law_cart_is hr (by o_reads) rfl (ac (pv 1) (ac jd (ac (bS (f:="speed") (pv 1) rfl) (ac (pv 3) av))))))) (be (bR hJ)) cy)
  (aC (dq (rE PySem.F.plainAttrs_list PySem.F.slot_list_reverse PySem.F.type_list_reverse j0 (pv 5)))
  (be (bR (bT g_law_same hr (by o_reads) rfl (ac (dH [] [] (CompC.to ly rfl rfl) rfl (cr (cA (bT g_parted hr (by o_reads) rfl (ac (pv 0) (ac (pv 1) (ac (pv 2) av))))) (cr (cT (bT g_parted hr (by o_reads) rfl (ac (pv 0) (ac (pv 1) (ac (pv 2) av))))) (cV (bT g_parted hr (by o_reads) rfl (ac (pv 0) (ac (pv 1) (ac (pv 2) av))))))) (fun _ _ _ _ _=>dQ) (fun _ _ _ _ _=>(mr (K:=K) rfl (f:="wheels") (pv 0) rfl))) (ac (pv 4) av)))))))))), ?_⟩
 exact dE (K:=K) (ns:=kNames) (fl':=[]) (n:=7) (b:=eu)
  (bM (cx 4 (PuF.pe (dw (db (PuX.pe (jI (af (ag 0) (af (ag 1) (af (ag 2) ax)))))) fF (slS (qF (uS (bY .wheels (ag 0))) yh yh)))))
  (zC (vN 5 6 (jI (af (ag 0) (af (ag 1) (af (ag 2) ax)))) (fY (af (aS _) (af (aS _) (af (aS _) ax)))) (by decide) (by decide) rfl)
  (bM (hZ (fZ (eD (cI (af (ag 1) (af (jh _) (af (uS (bY .speed (ag 1))) (af (ag 3) ax))))))) (cJ (iw _))
  dc)
  (bM (AA 5 rfl)
  (cJ (cI (af (PuF.pe (dw (db (PuX.pe (jI (af (ag 0) (af (ag 1) (af (ag 2) ax)))))) fF (uS (bY .wheels (ag 0))))) (af (ag 4) ax)))))))) rfl (by decide) h
theorem qk{f:Addr}{fd:FuncData}(F:Fun K "__init__" "Road.__init__" fK f fd)(z_list:mg "list"=none):
 FnOk P w K mg base CX0 1 f fd ["self","pieces","rounds","shuts"] (js K):=by
 refine F.ok pP (fun vs H Q E h=>pL h) (fun cdv A outer s H vs Q E hr h=> ?_)
 have hu:=hr.units
 refine⟨_,(aC (gW (f:="pieces") (pv 0) (jP hW rfl z_list jz (ac (pv 1) av)) rfl)
  (aC (gW (f:="rounds") (pv 0) (jP hW rfl z_list jz (ac (pv 2) av)) rfl)
  (be (gW (f:="shuts") (pv 0) (jP hW rfl z_list jz (ac (pv 3) av)) rfl)))), ?_⟩
 exact pK (K:=K) (ns:=kNames) (c:= .Road) (li (jl .pieces (PuF.pe (cSF (kj mx (af (ag 1) ax))))) (li (jl .rounds (PuF.pe (cSF (kj mx (af (ag 2) ax))))) (jl .shuts (PuF.pe (cSF (kj mx (af (ag 3) ax))))))) rfl rfl h
theorem zN{f:Addr}{fd:FuncData}(F:Fun K "law" "law" jX f fd)(g_law_mix:Got P w K mg base 1 "_law_mix" ["_law_cell_here","_law_one","_law_prime"] (gD K))(g_law_wheels:Got P w K mg base 2 "_law_wheels" ["_law_cell_here","_law_many"] (gK K))(g_ways_of:Got P w K mg base 3 "ways_of" ["road"] (j7 K))(g_joined:Got P w K mg base 3 "joined" ["carts"] (jS K))(g_law_cell:Got P w K mg base 1 "_law_cell" ["_law_script","_law_k"] (iO K))(g_law_pieces:Got P w K mg base 3 "_law_pieces" ["_law_pieces_here"] (iV K))(g_law_drawn:Got P w K mg base 3 "_law_drawn" ["_law_script","_law_k"] (jo K))(g_law_cart_is:Got P w K mg base 15 "_law_cart_is" ["_law_cart","_law_name","_law_speed","_law_wheels_here"] (eM K))(g_law_same:Got P w K mg base 14 "_law_same" ["_law_found","_law_due"] (jJ K))(g_law_narrow:Got P w K mg base 3 "_law_narrow" ["_law_cell_here","_law_wheels_here","_law_name"] (iX K))(g_law_asked:Got P w K mg base 16 "_law_asked" ["_law_road","_law_cart","_law_way"] (jr K))(g_law_changed:Got P w K mg base 16 "_law_changed" ["_law_road","_law_cart","_law_way","_law_wheels_here"] (iG K))(m_Road:GotP P w K mg base 1 "Road" ["self","pieces","rounds","shuts"] (js K))(d_Road:PKd K kNames (clA K "Road") ["Road"] ["pieces","rounds","shuts"])(m_Cart:GotP P w K mg base 1 "Cart" ["self","name","speed","wheels"] (eW K))(d_Cart:PKd K kNames (clA K "Cart") ["Cart"] ["name","speed","wheels"])(z_range:mg "range"=none)(z_len:mg "len"=none):
 FnOk P w K mg base CX0 17 f fd ["_law_script"] (qc K):=by
 refine F.ok eI (fun vs H Q E h=>by obtain⟨a,ns,rfl,_⟩:=h;rfl) (fun cdv A outer s H vs Q E hr h=> ?_)
 obtain⟨a,ns,e,hS,hlen,k⟩:=h
 have h:spP K kNames .no 1 sZ vs H Q E:=zn e hS (wj ns hlen) k
 have hu:=hr.units
 simp only[sZ,az] at h
 refine⟨_,(aC (bN (i:=1) eI.nd rfl (by o_reads) (bG bW (bT g_law_cell hr (by o_reads) rfl (ac (pv 0) (ac aR av))) (bK lT rfl z_len ju (ac (pv 0) av))))
  (aC (bN (i:=2) eI.nd rfl (by o_reads) (bT g_law_mix hr (by o_reads) rfl (ac (pv 1) (ac aR (ac aR av)))))
  (aC (bN (i:=3) eI.nd rfl (by o_reads) (bT g_law_wheels hr (by o_reads) rfl (ac (pv 1) (ac (bG bW aR (bG cK (pv 2) aR)) av))))
  (aC (bN (i:=4) eI.nd rfl (by o_reads) (dC (ac (e9 (ac jd (ac aR av))) av)))
  (aC (bN (i:=5) eI.nd rfl (by o_reads) (dC av))
  (aC (eA PassesOwn.never rfl (i3 rfl z_range (ac (bG bW aR (bG cK (bG cU (pv 2) aR) aR)) av)) (cz (i:=6) eI.nd rfl (by o_reads)) (aC (bN (i:=7) eI.nd rfl (by o_reads) (bG bW (bT g_law_cell hr (by o_reads) rfl (ac (pv 0) (ac (bG bW aR (pv 6)) av))) (bG jQ aR (pv 6))))
  (aC (bN (i:=4) eI.nd rfl (by o_reads) (bG bW (pv 4) (dC (ac (bT g_law_narrow hr (by o_reads) rfl (ac (pv 7) (ac (pv 3) (ac (cE cB jd (pv 6) (fun _ _=>rfl)) av)))) (ac (e9 (ac jd (ac aR av))) av)))))
  (be (dZ (eC (kU hu) (bG cK (bT g_law_mix hr (by o_reads) rfl (ac (pv 7) (ac aR (ac aR av)))) aR) aR (dG _)) (be (dq (i5 PySem.F.plainAttrs_list PySem.F.slot_list_append PySem.F.type_list_append cZ (pv 5) (ac (e9 (ac (cE cB jd (pv 6) (fun _ _=>rfl)) (ac aR av))) av)))) cy)))))
  (aC (bN (i:=8) eI.nd rfl (by o_reads) (j4 m_Road hr (by decide) rfl (ac (bT g_law_pieces hr (by o_reads) rfl (ac (pv 4) av)) (ac (pv 5) (ac (dC av) av)))))
  (aC (bN (i:=9) eI.nd rfl (by o_reads) (j4 m_Cart hr (by decide) rfl (ac jd (ac (bG bW aR (bG cK (bG cU (pv 2) aR) aR)) (ac (pv 3) av)))))
  (aC (eA PassesOwn.never rfl (cr (cA (bT g_ways_of hr (by o_reads) rfl (ac (pv 8) av))) (cr (cT (bT g_ways_of hr (by o_reads) rfl (ac (pv 8) av))) (cV (bT g_ways_of hr (by o_reads) rfl (ac (pv 8) av))))) (cz (i:=10) eI.nd rfl (by o_reads)) (be (dZ (PW.pt (xK (ip (da (bT g_law_asked hr (by o_reads) rfl (ac (pv 8) (ac (pv 9) (ac (pv 10) av)))))) (ut (ip (da (bT g_law_changed hr (by o_reads) rfl (ac (pv 8) (ac (pv 9) (ac (pv 10) (ac (pv 3) av)))))))))) (be (bR hJ)) cy)))
  (aC (ki ["_law_script"] [0] (CompC.to vO rfl rfl) rfl (i3 (by rfl) z_range (ac (bG bW aR (bG cK (bG cU (pv 2) aR) aR)) av)) (fun _ _ _ _ _=>dQ) (fun _ _ _ _ _=>(lj g_law_drawn (by rfl) (by rfl) (by rfl) (by rfl) (by rfl) (by exact hr) (by o_reads) rfl (ac (pv 1) (ac (pv 0) av)))) 11 eI.nd rfl (by o_reads))
  (aC (bN (i:=12) eI.nd rfl (by o_reads) (dC av))
  (aC (eA PassesOwn.never rfl (cr (cA (pv 11)) (cr (cT (pv 11)) (cV (pv 11)))) (cz (i:=7) eI.nd rfl (by o_reads)) (be (bN (i:=12) eI.nd rfl (by o_reads) (bG bW (pv 12) (bS (f:="wheels") (pv 7) rfl)))))
  (aC (bN (i:=13) eI.nd rfl (by o_reads) (bT g_joined hr (by o_reads) rfl (ac (pv 11) av)))
  (aC (dZ (ip (da (bT g_law_cart_is hr (by o_reads) rfl (ac (pv 13) (ac (bS (f:="name") (cE cB (pv 11) aR (fun _ _=>rfl)) rfl) (ac (bS (f:="speed") (cE cB (pv 11) aR (fun _ _=>rfl)) rfl) (ac (pv 12) av))))))) (be (bR hJ)) cy)
  (aC (dq (i5 PySem.F.plainAttrs_list PySem.F.slot_list_append PySem.F.type_list_append cZ (bS (f:="wheels") (pv 13) rfl) (ac (e9 (ac aR (ac aR (ac aR av)))) av)))
  (aC (dq (rE PySem.F.plainAttrs_list PySem.F.slot_list_reverse PySem.F.type_list_reverse j0 (bS (f:="wheels") (pv 13) rfl)))
  (be (bR (kM (bT g_law_cart_is hr (by o_reads) rfl (ac (bT g_joined hr (by o_reads) rfl (ac (pv 11) av)) (ac (bS (f:="name") (cE cB (pv 11) aR (fun _ _=>rfl)) rfl) (ac (bS (f:="speed") (cE cB (pv 11) aR (fun _ _=>rfl)) rfl) (ac (pv 12) av))))) (mF (bT g_law_same hr (by o_reads) rfl (ac (bS (f:="wheels") (pv 9) rfl) (ac (pv 3) av))))))))))))))))))))))), ?_⟩
 exact dE (K:=K) (ns:=kNames) (fl':=[]) (n:=14) (b:=sY)
  (bM (cx 1 (oS (aU cq (cI (af (ag 0) (af (aS _) ax))) (cS (cp gY (af (ag 0) ax))))))
  (bM (cx 2 (cI (af (ag 1) (af (aS _) (af (aS _) ax)))))
  (bM (cx 3 (PuF.pe (gZ (af (ag 1) (af (oS (aU cq (aS _) (oS (aU cL (ag 2) (aS _))))) ax)))))
  (bM (cx 4 (PuF.pe (dD (af (fY (af (jh _) (af (aS _) ax))) ax))))
  (bM (jD 5 (dD ax) (by decide))
  (bM (gP (iS (kq (af (oS (aU cq (aS _) (oS (aU cL (oS (aU cG (ag 2) (aS _))) (aS _))))) ax))) (gb 6 rfl)
  (bM (cx 7 (oS (aU cq (cI (af (ag 0) (af (oS (aU cq (aS _) (ag 6))) ax))) (oS (aU lc (aS _) (ag 6))))))
  (bM (cx 4 (oS (aU cq (ag 4) (PuF.pe (dD (af (cI (af (ag 7) (af (ag 3) (af (oS (aU cH (jh _) (ag 6))) ax)))) (af (fY (af (jh _) (af (aS _) ax))) ax)))))))
  (hZ (iK (oS (aU ou (oS (aU cL (cI (af (ag 7) (af (aS _) (af (aS _) ax)))) (aS _))) (aS _)))) (mW 5 (fY (af (oS (aU cH (jh _) (ag 6))) (af (aS _) ax))) rfl)
  dc))))
  (bM (vg [5] (cx 8 (pJ .Road d_Road (af (PuF.pe (gZ (af (ag 4) ax))) (af (ag 5) (af (PuF.pe (dD ax)) ax))))))
  (bM (cx 9 (PuX.pe (kA .Cart d_Cart (af (jh _) (af (oS (aU cq (aS _) (oS (aU cL (oS (aU cG (ag 2) (aS _))) (aS _))))) (af (ag 3) ax))))))
  (bM (gP (db (PuF.pe (gZ (af (ag 8) ax)))) (gb 10 rfl)
  (hZ (u6 (fZ (eD (cI (af (ag 8) (af (ag 9) (af (ag 10) ax)))))) (fZ (eD (cI (af (ag 8) (af (ag 9) (af (ag 10) (af (ag 3) ax)))))))) (cJ (iw _))
  dc))
  (bM (cx 11 (PuF.pe (dw (iS (kq (af (oS (aU cq (aS _) (oS (aU cL (oS (aU cG (ag 2) (aS _))) (aS _))))) ax))) fF (cI (af (ag 1) (af (ag 0) ax))))))
  (bM (cx 12 (PuF.pe (dD ax)))
  (bM (gP (db (ag 11)) (gb 7 rfl)
  (cx 12 (oS (aU cq (ag 12) (uS (bY .wheels (ag 7)))))))
  (zD (vL 13 (jI (af (ag 11) ax)) (fY (af (aS _) (af (aS _) (af (aS _) ax)))) (fZ (eD (cI (af (ag 13) (af (uS (bY .name (oS (aU cH (ag 11) (aS _))))) (af (uS (bY .speed (oS (aU cH (ag 11) (aS _))))) (af (ag 12) ax))))))) (by decide))
  (cJ (kY (cI (af (PuX.pe (jI (af (ag 11) ax))) (af (uS (bY .name (oS (aU cH (ag 11) (aS _))))) (af (uS (bY .speed (oS (aU cH (ag 11) (aS _))))) (af (ag 12) ax))))) (cI (af (uS (bY .wheels (ag 9))) (af (ag 3) ax)))))))))))))))))) rfl (by decide) h
end
theorem all_mk{l:W.OpenLaw}{w:World}{K:W.Frag}{h:Heap}{mg:Str→Option Value}{fa f0 f1 f2 f3 f4 f5 f6 f7 f8 f9 f10 f11 f12 f13 f14 f15 f16 f17 f18 f19 f20 f21 f22 f23 f24 f25 f26 f27 f28 f29 f30 f31 f32 f33 f34 f35:Addr}(X:K.In h)(G:h.Ns mainGlobals mg)(hfa:mg "law"=some (.ref fa))
 {od0 an0 od1 an1 od2 an2 od3 an3 od4 an4 od5 an5 od6 an6 od7 an7 od8 an8 od9 an9 od10 an10 od11 an11 od12 an12 od13 an13 od14 an14 od15 an15 od16 an16 od17 an17 od18 an18 od19 an19 od20 an20 od21 an21 od22 an22 od23 an23 od24 an24 od25 an25 od26 an26 od27 an27 od28 an28 od29 an29 od30 an30 od31 an31 od32 an32 od33 an33 od34 an34 od35 an35:Option Addr}{sl0 sl1 sl2 sl3 sl4 sl5 sl6 sl7 sl8 sl9 sl10 sl11 sl12 sl13 sl14 sl15 sl16 sl17 sl18 sl19 sl20 sl21 sl22 sl23 sl24 sl25 sl26 sl27 sl28 sl29 sl30 sl31 sl32 sl33 sl34 sl35:Array (Option Value)}{oc0 kV0 dc0 pm0 cd0 ct0 oc1 kV1 dc1 pm1 cd1 ct1 oc2 kV2 dc2 pm2 cd2 ct2 oc3 kV3 dc3 pm3 cd3 ct3 oc4 kV4 dc4 pm4 cd4 ct4 oc5 kV5 dc5 pm5 cd5 ct5 oc6 kV6 dc6 pm6 cd6 ct6 oc7 kV7 dc7 pm7 cd7 ct7 oc8 kV8 dc8 pm8 cd8 ct8 oc9 kV9 dc9 pm9 cd9 ct9 oc10 kV10 dc10 pm10 cd10 ct10 oc11 kV11 dc11 pm11 cd11 ct11 oc12 kV12 dc12 pm12 cd12 ct12 oc13 kV13 dc13 pm13 cd13 ct13 oc14 kV14 dc14 pm14 cd14 ct14 oc15 kV15 dc15 pm15 cd15 ct15 oc16 kV16 dc16 pm16 cd16 ct16 oc17 kV17 dc17 pm17 cd17 ct17 oc18 kV18 dc18 pm18 cd18 ct18 oc19 kV19 dc19 pm19 cd19 ct19 oc20 kV20 dc20 pm20 cd20 ct20 oc21 kV21 dc21 pm21 cd21 ct21 oc22 kV22 dc22 pm22 cd22 ct22 oc23 kV23 dc23 pm23 cd23 ct23 oc24 kV24 dc24 pm24 cd24 ct24 oc25 kV25 dc25 pm25 cd25 ct25 oc26 kV26 dc26 pm26 cd26 ct26 oc27 kV27 dc27 pm27 cd27 ct27 oc28 kV28 dc28 pm28 cd28 ct28 oc29 kV29 dc29 pm29 cd29 ct29 oc30 kV30 dc30 pm30 cd30 ct30 oc31 kV31 dc31 pm31 cd31 ct31 oc32 kV32 dc32 pm32 cd32 ct32 oc33 kV33 dc33 pm33 cd33 ct33 oc34 kV34 dc34 pm34 cd34 ct34 oc35 kV35 dc35 pm35 cd35 ct35:Value}
 {C0 C1 C2 C3:Addr}{xd0 xd1 xd2 xd3:Option Addr}{xc0 xc1 xc2 xc3:ClassData}{xs0 xs1 xs2 xs3:Array (Option Value)}
 (x0:W.nsIn K mainGlobals "Cart"=some (some (.ref C0)))(xl0:K.lookup C0=some ⟨.type "type",xd0, .cls xc0,xs0⟩)
 (xi0:W.findIn K (.ref C0) "__init__"=some (some (.ref f7)))
 (x1:W.nsIn K mainGlobals "Open"=some (some (.ref C1)))(xl1:K.lookup C1=some ⟨.type "type",xd1, .cls xc1,xs1⟩)
 (xi1:W.findIn K (.ref C1) "__init__"=some (some (.ref f10)))
 (x2:W.nsIn K mainGlobals "Bridge"=some (some (.ref C2)))(xl2:K.lookup C2=some ⟨.type "type",xd2, .cls xc2,xs2⟩)
 (xi2:W.findIn K (.ref C2) "__init__"=some (some (.ref f11)))
 (x3:W.nsIn K mainGlobals "Road"=some (some (.ref C3)))(xl3:K.lookup C3=some ⟨.type "type",xd3, .cls xc3,xs3⟩)
 (xi3:W.findIn K (.ref C3) "__init__"=some (some (.ref f34)))
 (xo0:xc0.mro=[.ref C0, .type "object"])(xk0:([C0,C1,C2,C3].map fun D=>xc0.mro.contains (.ref D))=kNames.map (List.contains (α:=Str) ["Cart"]))
 (xa0:W.plainGet K C0 Str.empty=true)(xb0:W.hasDictIn K C0=true)(xg0:W.plainOver K C0=true)(xe0:W.findIn K (.ref C0) "__setattr__"=some (some (.builtin "object.__setattr__")))(xf0:W.findIn K (.ref C0) "__class__"=some (some (.builtin "object.__class__")))
 (xm0:W.makesIn K C0=true)(xn0:W.isFn K (.ref f7)=true)(xp0:W.keepIn K (.ref C0)=true)
 (xna0_0:W.findIn K (.ref C0) "name"=some none)
 (xna0_1:W.findIn K (.ref C0) "speed"=some none)
 (xna0_2:W.findIn K (.ref C0) "wheels"=some none)
 (xo1:xc1.mro=[.ref C1, .type "object"])(xk1:([C0,C1,C2,C3].map fun D=>xc1.mro.contains (.ref D))=kNames.map (List.contains (α:=Str) ["Open"]))
 (xa1:W.plainGet K C1 Str.empty=true)(xb1:W.hasDictIn K C1=true)(xg1:W.plainOver K C1=true)(xe1:W.findIn K (.ref C1) "__setattr__"=some (some (.builtin "object.__setattr__")))(xf1:W.findIn K (.ref C1) "__class__"=some (some (.builtin "object.__class__")))
 (xm1:W.makesIn K C1=true)(xn1:W.isFn K (.ref f10)=true)(xp1:W.keepIn K (.ref C1)=true)
 (xna1_0:W.findIn K (.ref C1) "length"=some none)
 (xo2:xc2.mro=[.ref C2, .type "object"])(xk2:([C0,C1,C2,C3].map fun D=>xc2.mro.contains (.ref D))=kNames.map (List.contains (α:=Str) ["Bridge"]))
 (xa2:W.plainGet K C2 Str.empty=true)(xb2:W.hasDictIn K C2=true)(xg2:W.plainOver K C2=true)(xe2:W.findIn K (.ref C2) "__setattr__"=some (some (.builtin "object.__setattr__")))(xf2:W.findIn K (.ref C2) "__class__"=some (some (.builtin "object.__class__")))
 (xm2:W.makesIn K C2=true)(xn2:W.isFn K (.ref f11)=true)(xp2:W.keepIn K (.ref C2)=true)
 (xna2_0:W.findIn K (.ref C2) "name"=some none)
 (xna2_1:W.findIn K (.ref C2) "length"=some none)
 (xna2_2:W.findIn K (.ref C2) "bears"=some none)
 (xna2_3:W.findIn K (.ref C2) "wide"=some none)
 (xna2_4:W.findIn K (.ref C2) "most"=some none)
 (xo3:xc3.mro=[.ref C3, .type "object"])(xk3:([C0,C1,C2,C3].map fun D=>xc3.mro.contains (.ref D))=kNames.map (List.contains (α:=Str) ["Road"]))
 (xa3:W.plainGet K C3 Str.empty=true)(xb3:W.hasDictIn K C3=true)(xg3:W.plainOver K C3=true)(xe3:W.findIn K (.ref C3) "__setattr__"=some (some (.builtin "object.__setattr__")))(xf3:W.findIn K (.ref C3) "__class__"=some (some (.builtin "object.__class__")))
 (xm3:W.makesIn K C3=true)(xn3:W.isFn K (.ref f34)=true)(xp3:W.keepIn K (.ref C3)=true)
 (xna3_0:W.findIn K (.ref C3) "pieces"=some none)
 (xna3_1:W.findIn K (.ref C3) "rounds"=some none)
 (xna3_2:W.findIn K (.ref C3) "shuts"=some none)
 (xcg:W.specialIn K (.builtin "object.__class__") "__get__"=some (some (.builtin "getset_descriptor.__get__")))(xct:W.takesIn K (.builtin "object.__class__")=some true)
 (a0:W.nsIn K mainGlobals "_law_mix"=some (some (.ref f0)))(l0:K.lookup f0=some ⟨oc0,od0, .func (W.fnOf "_law_mix" "_law_mix" (bQ ij) (bP ij) (aQ ij) .none kV0 dc0 pm0 an0 cd0 ct0),sl0⟩)(c0:W.codeIn K cd0 "_law_mix"=true)(k0:W.keepIn K (.ref f0)=true)
 (a1:W.nsIn K mainGlobals "_law_wheels"=some (some (.ref f1)))(l1:K.lookup f1=some ⟨oc1,od1, .func (W.fnOf "_law_wheels" "_law_wheels" (bQ eR) (bP eR) (aQ eR) .none kV1 dc1 pm1 an1 cd1 ct1),sl1⟩)(c1:W.codeIn K cd1 "_law_wheels"=true)(k1:W.keepIn K (.ref f1)=true)
 (a2:W.nsIn K mainGlobals "each_choice"=some (some (.ref f2)))(l2:K.lookup f2=some ⟨oc2,od2, .func (W.fnOf "each_choice" "each_choice" (bQ dF) (bP dF) (aQ dF) .none kV2 dc2 pm2 an2 cd2 ct2),sl2⟩)(c2:W.codeIn K cd2 "each_choice"=true)(k2:W.keepIn K (.ref f2)=true)
 (a3:W.nsIn K mainGlobals "round_of"=some (some (.ref f3)))(l3:K.lookup f3=some ⟨oc3,od3, .func (W.fnOf "round_of" "round_of" (bQ gy) (bP gy) (aQ gy) .none kV3 dc3 pm3 an3 cd3 ct3),sl3⟩)(c3:W.codeIn K cd3 "round_of"=true)(k3:W.keepIn K (.ref f3)=true)
 (a4:W.nsIn K mainGlobals "ways_past"=some (some (.ref f4)))(l4:K.lookup f4=some ⟨oc4,od4, .func (W.fnOf "ways_past" "ways_past" (bQ fL) (bP fL) (aQ fL) .none kV4 dc4 pm4 an4 cd4 ct4),sl4⟩)(c4:W.codeIn K cd4 "ways_past"=true)(k4:W.keepIn K (.ref f4)=true)
 (a5:W.nsIn K mainGlobals "bridges_of"=some (some (.ref f5)))(l5:K.lookup f5=some ⟨oc5,od5, .func (W.fnOf "bridges_of" "bridges_of" (bQ dS) (bP dS) (aQ dS) .none kV5 dc5 pm5 an5 cd5 ct5),sl5⟩)(c5:W.codeIn K cd5 "bridges_of"=true)(k5:W.keepIn K (.ref f5)=true)
 (a6:W.nsIn K mainGlobals "ways_of"=some (some (.ref f6)))(l6:K.lookup f6=some ⟨oc6,od6, .func (W.fnOf "ways_of" "ways_of" (bQ gz) (bP gz) (aQ gz) .none kV6 dc6 pm6 an6 cd6 ct6),sl6⟩)(c6:W.codeIn K cd6 "ways_of"=true)(k6:W.keepIn K (.ref f6)=true)
 (l7:K.lookup f7=some ⟨oc7,od7, .func (W.fnOf "__init__" "Cart.__init__" (bQ fI) (bP fI) (aQ fI) .none kV7 dc7 pm7 an7 cd7 ct7),sl7⟩)(c7:W.codeIn K cd7 "Cart.__init__"=true)(k7:W.keepIn K (.ref f7)=true)
 (a8:W.nsIn K mainGlobals "joined"=some (some (.ref f8)))(l8:K.lookup f8=some ⟨oc8,od8, .func (W.fnOf "joined" "joined" (bQ i6) (bP i6) (aQ i6) .none kV8 dc8 pm8 an8 cd8 ct8),sl8⟩)(c8:W.codeIn K cd8 "joined"=true)(k8:W.keepIn K (.ref f8)=true)
 (a9:W.nsIn K mainGlobals "_law_cell"=some (some (.ref f9)))(l9:K.lookup f9=some ⟨oc9,od9, .func (W.fnOf "_law_cell" "_law_cell" (bQ gB) (bP gB) (aQ gB) .none kV9 dc9 pm9 an9 cd9 ct9),sl9⟩)(c9:W.codeIn K cd9 "_law_cell"=true)(k9:W.keepIn K (.ref f9)=true)
 (l10:K.lookup f10=some ⟨oc10,od10, .func (W.fnOf "__init__" "Open.__init__" (bQ fJ) (bP fJ) (aQ fJ) .none kV10 dc10 pm10 an10 cd10 ct10),sl10⟩)(c10:W.codeIn K cd10 "Open.__init__"=true)(k10:W.keepIn K (.ref f10)=true)
 (l11:K.lookup f11=some ⟨oc11,od11, .func (W.fnOf "__init__" "Bridge.__init__" (bQ d7) (bP d7) (aQ d7) .none kV11 dc11 pm11 an11 cd11 ct11),sl11⟩)(c11:W.codeIn K cd11 "Bridge.__init__"=true)(k11:W.keepIn K (.ref f11)=true)
 (a12:W.nsIn K mainGlobals "_law_pieces"=some (some (.ref f12)))(l12:K.lookup f12=some ⟨oc12,od12, .func (W.fnOf "_law_pieces" "_law_pieces" (bQ eT) (bP eT) (aQ eT) .none kV12 dc12 pm12 an12 cd12 ct12),sl12⟩)(c12:W.codeIn K cd12 "_law_pieces"=true)(k12:W.keepIn K (.ref f12)=true)
 (a13:W.nsIn K mainGlobals "_law_drawn"=some (some (.ref f13)))(l13:K.lookup f13=some ⟨oc13,od13, .func (W.fnOf "_law_drawn" "_law_drawn" (bQ fM) (bP fM) (aQ fM) .none kV13 dc13 pm13 an13 cd13 ct13),sl13⟩)(c13:W.codeIn K cd13 "_law_drawn"=true)(k13:W.keepIn K (.ref f13)=true)
 (a14:W.nsIn K mainGlobals "_law_alike"=some (some (.ref f14)))(l14:K.lookup f14=some ⟨oc14,od14, .func (W.fnOf "_law_alike" "_law_alike" (bQ eH) (bP eH) (aQ eH) .none kV14 dc14 pm14 an14 cd14 ct14),sl14⟩)(c14:W.codeIn K cd14 "_law_alike"=true)(k14:W.keepIn K (.ref f14)=true)
 (a15:W.nsIn K mainGlobals "_law_same"=some (some (.ref f15)))(l15:K.lookup f15=some ⟨oc15,od15, .func (W.fnOf "_law_same" "_law_same" (bQ gC) (bP gC) (aQ gC) .none kV15 dc15 pm15 an15 cd15 ct15),sl15⟩)(c15:W.codeIn K cd15 "_law_same"=true)(k15:W.keepIn K (.ref f15)=true)
 (a16:W.nsIn K mainGlobals "_law_cart_is"=some (some (.ref f16)))(l16:K.lookup f16=some ⟨oc16,od16, .func (W.fnOf "_law_cart_is" "_law_cart_is" (bQ d8) (bP d8) (aQ d8) .none kV16 dc16 pm16 an16 cd16 ct16),sl16⟩)(c16:W.codeIn K cd16 "_law_cart_is"=true)(k16:W.keepIn K (.ref f16)=true)
 (a17:W.nsIn K mainGlobals "_law_places"=some (some (.ref f17)))(l17:K.lookup f17=some ⟨oc17,od17, .func (W.fnOf "_law_places" "_law_places" (bQ dU) (bP dU) (aQ dU) .none kV17 dc17 pm17 an17 cd17 ct17),sl17⟩)(c17:W.codeIn K cd17 "_law_places"=true)(k17:W.keepIn K (.ref f17)=true)
 (a18:W.nsIn K mainGlobals "_law_close"=some (some (.ref f18)))(l18:K.lookup f18=some ⟨oc18,od18, .func (W.fnOf "_law_close" "_law_close" (bQ eG) (bP eG) (aQ eG) .none kV18 dc18 pm18 an18 cd18 ct18),sl18⟩)(c18:W.codeIn K cd18 "_law_close"=true)(k18:W.keepIn K (.ref f18)=true)
 (a19:W.nsIn K mainGlobals "_law_narrow"=some (some (.ref f19)))(l19:K.lookup f19=some ⟨oc19,od19, .func (W.fnOf "_law_narrow" "_law_narrow" (bQ dW) (bP dW) (aQ dW) .none kV19 dc19 pm19 an19 cd19 ct19),sl19⟩)(c19:W.codeIn K cd19 "_law_narrow"=true)(k19:W.keepIn K (.ref f19)=true)
 (a20:W.nsIn K mainGlobals "over_by_name"=some (some (.ref f20)))(l20:K.lookup f20=some ⟨oc20,od20, .func (W.fnOf "over_by_name" "over_by_name" (bQ df) (bP df) (aQ df) .none kV20 dc20 pm20 an20 cd20 ct20),sl20⟩)(c20:W.codeIn K cd20 "over_by_name"=true)(k20:W.keepIn K (.ref f20)=true)
 (a21:W.nsIn K mainGlobals "length_along"=some (some (.ref f21)))(l21:K.lookup f21=some ⟨oc21,od21, .func (W.fnOf "length_along" "length_along" (bQ dJ) (bP dJ) (aQ dJ) .none kV21 dc21 pm21 an21 cd21 ct21),sl21⟩)(c21:W.codeIn K cd21 "length_along"=true)(k21:W.keepIn K (.ref f21)=true)
 (a22:W.nsIn K mainGlobals "legs_of"=some (some (.ref f22)))(l22:K.lookup f22=some ⟨oc22,od22, .func (W.fnOf "legs_of" "legs_of" (bQ ic) (bP ic) (aQ ic) .none kV22 dc22 pm22 an22 cd22 ct22),sl22⟩)(c22:W.codeIn K cd22 "legs_of"=true)(k22:W.keepIn K (.ref f22)=true)
 (a23:W.nsIn K mainGlobals "bridges_along"=some (some (.ref f23)))(l23:K.lookup f23=some ⟨oc23,od23, .func (W.fnOf "bridges_along" "bridges_along" (bQ cP) (bP cP) (aQ cP) .none kV23 dc23 pm23 an23 cd23 ct23),sl23⟩)(c23:W.codeIn K cd23 "bridges_along"=true)(k23:W.keepIn K (.ref f23)=true)
 (a24:W.nsIn K mainGlobals "greatest_sum"=some (some (.ref f24)))(l24:K.lookup f24=some ⟨oc24,od24, .func (W.fnOf "greatest_sum" "greatest_sum" (bQ de) (bP de) (aQ de) .none kV24 dc24 pm24 an24 cd24 ct24),sl24⟩)(c24:W.codeIn K cd24 "greatest_sum"=true)(k24:W.keepIn K (.ref f24)=true)
 (a25:W.nsIn K mainGlobals "offsets_of"=some (some (.ref f25)))(l25:K.lookup f25=some ⟨oc25,od25, .func (W.fnOf "offsets_of" "offsets_of" (bQ eP) (bP eP) (aQ eP) .none kV25 dc25 pm25 an25 cd25 ct25),sl25⟩)(c25:W.codeIn K cd25 "offsets_of"=true)(k25:W.keepIn K (.ref f25)=true)
 (a26:W.nsIn K mainGlobals "heaviest"=some (some (.ref f26)))(l26:K.lookup f26=some ⟨oc26,od26, .func (W.fnOf "heaviest" "heaviest" (bQ fG) (bP fG) (aQ fG) .none kV26 dc26 pm26 an26 cd26 ct26),sl26⟩)(c26:W.codeIn K cd26 "heaviest"=true)(k26:W.keepIn K (.ref f26)=true)
 (a27:W.nsIn K mainGlobals "fits"=some (some (.ref f27)))(l27:K.lookup f27=some ⟨oc27,od27, .func (W.fnOf "fits" "fits" (bQ ls) (bP ls) (aQ ls) .none kV27 dc27 pm27 an27 cd27 ct27),sl27⟩)(c27:W.codeIn K cd27 "fits"=true)(k27:W.keepIn K (.ref f27)=true)
 (a28:W.nsIn K mainGlobals "refuse_wheels"=some (some (.ref f28)))(l28:K.lookup f28=some ⟨oc28,od28, .func (W.fnOf "refuse_wheels" "refuse_wheels" (bQ dg) (bP dg) (aQ dg) .none kV28 dc28 pm28 an28 cd28 ct28),sl28⟩)(c28:W.codeIn K cd28 "refuse_wheels"=true)(k28:W.keepIn K (.ref f28)=true)
 (a29:W.nsIn K mainGlobals "fits_each"=some (some (.ref f29)))(l29:K.lookup f29=some ⟨oc29,od29, .func (W.fnOf "fits_each" "fits_each" (bQ eF) (bP eF) (aQ eF) .none kV29 dc29 pm29 an29 cd29 ct29),sl29⟩)(c29:W.codeIn K cd29 "fits_each"=true)(k29:W.keepIn K (.ref f29)=true)
 (a30:W.nsIn K mainGlobals "run_end"=some (some (.ref f30)))(l30:K.lookup f30=some ⟨oc30,od30, .func (W.fnOf "run_end" "run_end" (bQ ie) (bP ie) (aQ ie) .none kV30 dc30 pm30 an30 cd30 ct30),sl30⟩)(c30:W.codeIn K cd30 "run_end"=true)(k30:W.keepIn K (.ref f30)=true)
 (a31:W.nsIn K mainGlobals "parted"=some (some (.ref f31)))(l31:K.lookup f31=some ⟨oc31,od31, .func (W.fnOf "parted" "parted" (bQ i7) (bP i7) (aQ i7) .none kV31 dc31 pm31 an31 cd31 ct31),sl31⟩)(c31:W.codeIn K cd31 "parted"=true)(k31:W.keepIn K (.ref f31)=true)
 (a32:W.nsIn K mainGlobals "_law_asked"=some (some (.ref f32)))(l32:K.lookup f32=some ⟨oc32,od32, .func (W.fnOf "_law_asked" "_law_asked" (bQ dP) (bP dP) (aQ dP) .none kV32 dc32 pm32 an32 cd32 ct32),sl32⟩)(c32:W.codeIn K cd32 "_law_asked"=true)(k32:W.keepIn K (.ref f32)=true)
 (a33:W.nsIn K mainGlobals "_law_changed"=some (some (.ref f33)))(l33:K.lookup f33=some ⟨oc33,od33, .func (W.fnOf "_law_changed" "_law_changed" (bQ cX) (bP cX) (aQ cX) .none kV33 dc33 pm33 an33 cd33 ct33),sl33⟩)(c33:W.codeIn K cd33 "_law_changed"=true)(k33:W.keepIn K (.ref f33)=true)
 (l34:K.lookup f34=some ⟨oc34,od34, .func (W.fnOf "__init__" "Road.__init__" (bQ fK) (bP fK) (aQ fK) .none kV34 dc34 pm34 an34 cd34 ct34),sl34⟩)(c34:W.codeIn K cd34 "Road.__init__"=true)(k34:W.keepIn K (.ref f34)=true)
 (a35:W.nsIn K mainGlobals "law"=some (some (.ref f35)))(l35:K.lookup f35=some ⟨oc35,od35, .func (W.fnOf "law" "law" (bQ jX) (bP jX) (aQ jX) .none kV35 dc35 pm35 an35 cd35 ct35),sl35⟩)(c35:W.codeIn K cd35 "law"=true)(k35:W.keepIn K (.ref f35)=true)
 (zz0:W.nsIn K mainGlobals "range"=some none)
 (zz1:W.nsIn K mainGlobals "min"=some none)
 (zz2:W.nsIn K mainGlobals "isinstance"=some none)
 (zz3:W.nsIn K mainGlobals "list"=some none)
 (zz4:W.nsIn K mainGlobals "len"=some none)
 (zz5:W.nsIn K mainGlobals "all"=some none)
 (zz6:W.nsIn K mainGlobals "tuple"=some none)
 (zz7:W.nsIn K mainGlobals "zip"=some none)
 (zz8:W.nsIn K mainGlobals "str"=some none)
 (zz9:W.nsIn K mainGlobals "int"=some none)
 (zz10:W.nsIn K mainGlobals "bool"=some none)
 (zz11:W.nsIn K mainGlobals "sum"=some none)
 (zz12:W.nsIn K mainGlobals "max"=some none)
 (zz13:W.nsIn K mainGlobals "dict"=some none)
 (zz14:W.nsIn K mainGlobals "enumerate"=some none)
 :
 ∃fd:FuncData,(∀(s:Shared) (v:Value),BindsTo s fd ⟨[v],[]⟩ [("_law_script",v)])∧∀base:Heap,K.In base→base.Ns mainGlobals mg→FnOk l.prog w K mg base CX0 17 fa fd ["_law_script"] (qc K):=by
 have e:=hfa.symm.trans (W.mg_of X G a35)
 cases e
 have F0:=cu (st:=ij) l0 c0 k0
 have F1:=cu (st:=eR) l1 c1 k1
 have F2:=cu (st:=dF) l2 c2 k2
 have F3:=cu (st:=gy) l3 c3 k3
 have F4:=cu (st:=fL) l4 c4 k4
 have F5:=cu (st:=dS) l5 c5 k5
 have F6:=cu (st:=gz) l6 c6 k6
 have F7:=cu (st:=fI) l7 c7 k7
 have F8:=cu (st:=i6) l8 c8 k8
 have F9:=cu (st:=gB) l9 c9 k9
 have F10:=cu (st:=fJ) l10 c10 k10
 have F11:=cu (st:=d7) l11 c11 k11
 have F12:=cu (st:=eT) l12 c12 k12
 have F13:=cu (st:=fM) l13 c13 k13
 have F14:=cu (st:=eH) l14 c14 k14
 have F15:=cu (st:=gC) l15 c15 k15
 have F16:=cu (st:=d8) l16 c16 k16
 have F17:=cu (st:=dU) l17 c17 k17
 have F18:=cu (st:=eG) l18 c18 k18
 have F19:=cu (st:=dW) l19 c19 k19
 have F20:=cu (st:=df) l20 c20 k20
 have F21:=cu (st:=dJ) l21 c21 k21
 have F22:=cu (st:=ic) l22 c22 k22
 have F23:=cu (st:=cP) l23 c23 k23
 have F24:=cu (st:=de) l24 c24 k24
 have F25:=cu (st:=eP) l25 c25 k25
 have F26:=cu (st:=fG) l26 c26 k26
 have F27:=cu (st:=ls) l27 c27 k27
 have F28:=cu (st:=dg) l28 c28 k28
 have F29:=cu (st:=eF) l29 c29 k29
 have F30:=cu (st:=ie) l30 c30 k30
 have F31:=cu (st:=i7) l31 c31 k31
 have F32:=cu (st:=dP) l32 c32 k32
 have F33:=cu (st:=cX) l33 c33 k33
 have F34:=cu (st:=fK) l34 c34 k34
 have F35:=cu (st:=jX) l35 c35 k35
 have z_range:=W.mg_none_of X G zz0
 have z_min:=W.mg_none_of X G zz1
 have z_isinstance:=W.mg_none_of X G zz2
 have z_list:=W.mg_none_of X G zz3
 have z_len:=W.mg_none_of X G zz4
 have z_all:=W.mg_none_of X G zz5
 have z_tuple:=W.mg_none_of X G zz6
 have z_zip:=W.mg_none_of X G zz7
 have z_str:=W.mg_none_of X G zz8
 have z_int:=W.mg_none_of X G zz9
 have z_bool:=W.mg_none_of X G zz10
 have z_sum:=W.mg_none_of X G zz11
 have z_max:=W.mg_none_of X G zz12
 have z_dict:=W.mg_none_of X G zz13
 have z_enumerate:=W.mg_none_of X G zz14
 have o0:KObj K C0 xc0:=mq xl0 xo0
 have n_Cart:mg "Cart"=some (.ref (clA K "Cart")):=by rw[j3 x0];exact W.mg_of X G x0
 have o1:KObj K C1 xc1:=mq xl1 xo1
 have n_Open:mg "Open"=some (.ref (clA K "Open")):=by rw[j3 x1];exact W.mg_of X G x1
 have o2:KObj K C2 xc2:=mq xl2 xo2
 have n_Bridge:mg "Bridge"=some (.ref (clA K "Bridge")):=by rw[j3 x2];exact W.mg_of X G x2
 have o3:KObj K C3 xc3:=mq xl3 xo3
 have n_Road:mg "Road"=some (.ref (clA K "Road")):=by rw[j3 x3];exact W.mg_of X G x3
 have pts:Pts K kNames [C0,C1,C2,C3]:= .cons x0 o0 (.cons x1 o1 (.cons x2 o2 (.cons x3 o3 (.nil))))
 have d_Cart:PKd K kNames (clA K "Cart") ["Cart"] ["name","speed","wheels"]:=pq x0 xl0 xo0 pts xk0 xa0 xb0 xg0 xe0 xf0 xcg xct (fD xna0_0 (fD xna0_1 (fD xna0_2 pk)))
 have d_Open:PKd K kNames (clA K "Open") ["Open"] ["length"]:=pq x1 xl1 xo1 pts xk1 xa1 xb1 xg1 xe1 xf1 xcg xct (fD xna1_0 pk)
 have d_Bridge:PKd K kNames (clA K "Bridge") ["Bridge"] ["name","length","bears","wide","most"]:=pq x2 xl2 xo2 pts xk2 xa2 xb2 xg2 xe2 xf2 xcg xct (fD xna2_0 (fD xna2_1 (fD xna2_2 (fD xna2_3 (fD xna2_4 pk)))))
 have d_Road:PKd K kNames (clA K "Road") ["Road"] ["pieces","rounds","shuts"]:=pq x3 xl3 xo3 pts xk3 xa3 xb3 xg3 xe3 xf3 xcg xct (fD xna3_0 (fD xna3_1 (fD xna3_2 pk)))
 refine⟨W.fnOf "law" "law" (bQ jX) (bP jX) (aQ jX) .none kV35 dc35 pm35 an35 cd35 ct35,fun s v=> .of_eq rfl,fun base _ _=> ?_⟩
 have b0:=F0.binds (ps:=["_law_cell_here","_law_one","_law_prime"]) fun _ _ _ _ _ _ us hl=>by obtain⟨_,_,_,rfl⟩:=us3 hl;rfl
 have g_law_mix:Got l.prog w K mg base 1 "_law_mix" ["_law_cell_here","_law_one","_law_prime"] (gD K):=⟨⟨_,_,rX F0,b0,k0,W.mg_of X G a0⟩⟩
 have b1:=F1.binds (ps:=["_law_cell_here","_law_many"]) fun _ _ _ _ _ _ us hl=>by obtain⟨_,_,rfl⟩:=us2 hl;rfl
 have g_law_wheels:Got l.prog w K mg base 2 "_law_wheels" ["_law_cell_here","_law_many"] (gK K):=⟨⟨_,_,nQ F1 g_law_mix z_range z_min,b1,k1,W.mg_of X G a1⟩⟩
 have b2:=F2.binds (ps:=["choices"]) fun _ _ _ _ _ _ us hl=>by obtain⟨_,rfl⟩:=us1 hl;rfl
 have g_each_choice:Got l.prog w K mg base 1 "each_choice" ["choices"] (iB K):=⟨⟨_,_,nD F2,b2,k2,W.mg_of X G a2⟩⟩
 have b3:=F3.binds (ps:=["road","name"]) fun _ _ _ _ _ _ us hl=>by obtain⟨_,_,rfl⟩:=us2 hl;rfl
 have g_round_of:Got l.prog w K mg base 1 "round_of" ["road","name"] (iN K):=⟨⟨_,_,rc F3,b3,k3,W.mg_of X G a3⟩⟩
 have b4:=F4.binds (ps:=["road","bridge"]) fun _ _ _ _ _ _ us hl=>by obtain⟨_,_,rfl⟩:=us2 hl;rfl
 have g_ways_past:Got l.prog w K mg base 2 "ways_past" ["road","bridge"] (jm K):=⟨⟨_,_,qd F4 g_round_of,b4,k4,W.mg_of X G a4⟩⟩
 have b5:=F5.binds (ps:=["road"]) fun _ _ _ _ _ _ us hl=>by obtain⟨_,rfl⟩:=us1 hl;rfl
 have g_bridges_of:Got l.prog w K mg base 1 "bridges_of" ["road"] (fq K):=⟨⟨_,_,nR F5 d_Bridge n_Bridge z_isinstance,b5,k5,W.mg_of X G a5⟩⟩
 have b6:=F6.binds (ps:=["road"]) fun _ _ _ _ _ _ us hl=>by obtain⟨_,rfl⟩:=us1 hl;rfl
 have g_ways_of:Got l.prog w K mg base 3 "ways_of" ["road"] (j7 K):=⟨⟨_,_,rY F6 g_each_choice g_ways_past g_bridges_of,b6,k6,W.mg_of X G a6⟩⟩
 have b7:=F7.binds (ps:=["self","name","speed","wheels"]) fun _ _ _ _ _ _ us hl=>by obtain⟨_,_,_,_,rfl⟩:=us4 hl;rfl
 have m_Cart:GotP l.prog w K mg base 1 "Cart" ["self","name","speed","wheels"] (eW K):=⟨⟨_,_,sB x0 xm0 xi0 xn0 xp0,qe F7 z_list,b7,n_Cart⟩⟩
 have b8:=F8.binds (ps:=["carts"]) fun _ _ _ _ _ _ us hl=>by obtain⟨_,rfl⟩:=us1 hl;rfl
 have g_joined:Got l.prog w K mg base 3 "joined" ["carts"] (jS K):=⟨⟨_,_,uo F8 m_Cart d_Cart,b8,k8,W.mg_of X G a8⟩⟩
 have b9:=F9.binds (ps:=["_law_script","_law_k"]) fun _ _ _ _ _ _ us hl=>by obtain⟨_,_,rfl⟩:=us2 hl;rfl
 have g_law_cell:Got l.prog w K mg base 1 "_law_cell" ["_law_script","_law_k"] (iO K):=⟨⟨_,_,re F9 z_len,b9,k9,W.mg_of X G a9⟩⟩
 have b10:=F10.binds (ps:=["self","length"]) fun _ _ _ _ _ _ us hl=>by obtain⟨_,_,rfl⟩:=us2 hl;rfl
 have m_Open:GotP l.prog w K mg base 1 "Open" ["self","length"] (jn K):=⟨⟨_,_,sB x1 xm1 xi1 xn1 xp1,qf F10,b10,n_Open⟩⟩
 have b11:=F11.binds (ps:=["self","name","length","bears","wide","most"]) fun _ _ _ _ _ _ us hl=>by obtain⟨_,_,_,_,_,_,rfl⟩:=us6 hl;rfl
 have m_Bridge:GotP l.prog w K mg base 1 "Bridge" ["self","name","length","bears","wide","most"] (iE K):=⟨⟨_,_,sB x2 xm2 xi2 xn2 xp2,nF F11,b11,n_Bridge⟩⟩
 have b12:=F12.binds (ps:=["_law_pieces_here"]) fun _ _ _ _ _ _ us hl=>by obtain⟨_,rfl⟩:=us1 hl;rfl
 have g_law_pieces:Got l.prog w K mg base 3 "_law_pieces" ["_law_pieces_here"] (iV K):=⟨⟨_,_,nS F12 m_Open d_Open m_Bridge d_Bridge,b12,k12,W.mg_of X G a12⟩⟩
 have b13:=F13.binds (ps:=["_law_script","_law_k"]) fun _ _ _ _ _ _ us hl=>by obtain⟨_,_,rfl⟩:=us2 hl;rfl
 have g_law_drawn:Got l.prog w K mg base 3 "_law_drawn" ["_law_script","_law_k"] (jo K):=⟨⟨_,_,qg F13 g_law_cell g_law_wheels g_law_mix m_Cart d_Cart,b13,k13,W.mg_of X G a13⟩⟩
 have b14:=F14.binds (ps:=["_law_found","_law_due"]) fun _ _ _ _ _ _ us hl=>by obtain⟨_,_,rfl⟩:=us2 hl;rfl
 have b15:=F15.binds (ps:=["_law_found","_law_due"]) fun _ _ _ _ _ _ us hl=>by obtain⟨_,_,rfl⟩:=us2 hl;rfl
 have gg:=tJ (P:=l.prog) (w:=w) (base:=base) F14 F15 b14 b15 k14 k15 (W.mg_of X G a14) (W.mg_of X G a15) z_all z_bool z_int z_isinstance z_len z_list z_str z_tuple z_zip 14
 have g_law_alike:=gg.1
 have g_law_same:=gg.2
 have b16:=F16.binds (ps:=["_law_cart","_law_name","_law_speed","_law_wheels_here"]) fun _ _ _ _ _ _ us hl=>by obtain⟨_,_,_,_,rfl⟩:=us4 hl;rfl
 have g_law_cart_is:Got l.prog w K mg base 15 "_law_cart_is" ["_law_cart","_law_name","_law_speed","_law_wheels_here"] (eM K):=⟨⟨_,_,nG F16 g_law_same d_Cart n_Cart z_isinstance,b16,k16,W.mg_of X G a16⟩⟩
 have b17:=F17.binds (ps:=["_law_wheels_here"]) fun _ _ _ _ _ _ us hl=>by obtain⟨_,rfl⟩:=us1 hl;rfl
 have g_law_places:Got l.prog w K mg base 1 "_law_places" ["_law_wheels_here"] (iW K):=⟨⟨_,_,nT F17 z_sum z_range z_len,b17,k17,W.mg_of X G a17⟩⟩
 have b18:=F18.binds (ps:=["_law_wheels_here","_law_width","_law_which"]) fun _ _ _ _ _ _ us hl=>by obtain⟨_,_,_,rfl⟩:=us3 hl;rfl
 have g_law_close:Got l.prog w K mg base 2 "_law_close" ["_law_wheels_here","_law_width","_law_which"] (jp K):=⟨⟨_,_,qh F18 g_law_places z_range z_len z_max z_sum,b18,k18,W.mg_of X G a18⟩⟩
 have b19:=F19.binds (ps:=["_law_cell_here","_law_wheels_here","_law_name"]) fun _ _ _ _ _ _ us hl=>by obtain⟨_,_,_,rfl⟩:=us3 hl;rfl
 have g_law_narrow:Got l.prog w K mg base 3 "_law_narrow" ["_law_cell_here","_law_wheels_here","_law_name"] (iX K):=⟨⟨_,_,nU F19 g_law_mix g_law_close z_max z_len z_min,b19,k19,W.mg_of X G a19⟩⟩
 have b20:=F20.binds (ps:=["road","way"]) fun _ _ _ _ _ _ us hl=>by obtain⟨_,_,rfl⟩:=us2 hl;rfl
 have g_over_by_name:Got l.prog w K mg base 2 "over_by_name" ["road","way"] (g6 K):=⟨⟨_,_,mf F20 g_bridges_of z_dict z_zip,b20,k20,W.mg_of X G a20⟩⟩
 have b21:=F21.binds (ps:=["road","piece","over"]) fun _ _ _ _ _ _ us hl=>by obtain⟨_,_,_,rfl⟩:=us3 hl;rfl
 have g_length_along:Got l.prog w K mg base 2 "length_along" ["road","piece","over"] (g9 K):=⟨⟨_,_,mh F21 g_round_of d_Open n_Open z_isinstance,b21,k21,W.mg_of X G a21⟩⟩
 have b22:=F22.binds (ps:=["road","way"]) fun _ _ _ _ _ _ us hl=>by obtain⟨_,_,rfl⟩:=us2 hl;rfl
 have g_legs_of:Got l.prog w K mg base 3 "legs_of" ["road","way"] (j8 K):=⟨⟨_,_,rZ F22 g_over_by_name g_length_along d_Bridge n_Bridge z_isinstance,b22,k22,W.mg_of X G a22⟩⟩
 have b23:=F23.binds (ps:=["road","way"]) fun _ _ _ _ _ _ us hl=>by obtain⟨_,_,rfl⟩:=us2 hl;rfl
 have g_bridges_along:Got l.prog w K mg base 4 "bridges_along" ["road","way"] (gF K):=⟨⟨_,_,lK F23 g_legs_of,b23,k23,W.mg_of X G a23⟩⟩
 have b24:=F24.binds (ps:=["weights","offsets","width"]) fun _ _ _ _ _ _ us hl=>by obtain⟨_,_,_,rfl⟩:=us3 hl;rfl
 have g_greatest_sum:Got l.prog w K mg base 1 "greatest_sum" ["weights","offsets","width"] (hG K):=⟨⟨_,_,mj F24 z_enumerate z_max z_sum z_range z_len,b24,k24,W.mg_of X G a24⟩⟩
 have b25:=F25.binds (ps:=["wheels"]) fun _ _ _ _ _ _ us hl=>by obtain⟨_,rfl⟩:=us1 hl;rfl
 have g_offsets_of:Got l.prog w K mg base 1 "offsets_of" ["wheels"] (iY K):=⟨⟨_,_,nV F25,b25,k25,W.mg_of X G a25⟩⟩
 have b26:=F26.binds (ps:=["wheels","width"]) fun _ _ _ _ _ _ us hl=>by obtain⟨_,_,rfl⟩:=us2 hl;rfl
 have g_heaviest:Got l.prog w K mg base 2 "heaviest" ["wheels","width"] (jL K):=⟨⟨_,_,rg F26 g_greatest_sum g_offsets_of,b26,k26,W.mg_of X G a26⟩⟩
 have b27:=F27.binds (ps:=["bridge","wheels"]) fun _ _ _ _ _ _ us hl=>by obtain⟨_,_,rfl⟩:=us2 hl;rfl
 have g_fits:Got l.prog w K mg base 3 "fits" ["bridge","wheels"] (kF K):=⟨⟨_,_,xJ F27 g_heaviest,b27,k27,W.mg_of X G a27⟩⟩
 have b28:=F28.binds (ps:=["bridges","wheels"]) fun _ _ _ _ _ _ us hl=>by obtain⟨_,_,rfl⟩:=us2 hl;rfl
 have g_refuse_wheels:Got l.prog w K mg base 4 "refuse_wheels" ["bridges","wheels"] (gH K):=⟨⟨_,_,lL F28 g_fits z_enumerate,b28,k28,W.mg_of X G a28⟩⟩
 have b29:=F29.binds (ps:=["bridges","wheels"]) fun _ _ _ _ _ _ us hl=>by obtain⟨_,_,rfl⟩:=us2 hl;rfl
 have g_fits_each:Got l.prog w K mg base 4 "fits_each" ["bridges","wheels"] (jq K):=⟨⟨_,_,qi F29 g_fits z_all,b29,k29,W.mg_of X G a29⟩⟩
 have b30:=F30.binds (ps:=["bridges","wheels","first"]) fun _ _ _ _ _ _ us hl=>by obtain⟨_,_,_,rfl⟩:=us3 hl;rfl
 have g_run_end:Got l.prog w K mg base 5 "run_end" ["bridges","wheels","first"] (j9 K):=⟨⟨_,_,r6 F30 g_fits_each z_len,b30,k30,W.mg_of X G a30⟩⟩
 have b31:=F31.binds (ps:=["road","cart","way"]) fun _ _ _ _ _ _ us hl=>by obtain⟨_,_,_,rfl⟩:=us3 hl;rfl
 have g_parted:Got l.prog w K mg base 6 "parted" ["road","cart","way"] (jT K):=⟨⟨_,_,uq F31 g_bridges_along g_refuse_wheels g_run_end m_Cart d_Cart z_len,b31,k31,W.mg_of X G a31⟩⟩
 have b32:=F32.binds (ps:=["_law_road","_law_cart","_law_way"]) fun _ _ _ _ _ _ us hl=>by obtain⟨_,_,_,rfl⟩:=us3 hl;rfl
 have g_law_asked:Got l.prog w K mg base 16 "_law_asked" ["_law_road","_law_cart","_law_way"] (jr K):=⟨⟨_,_,qj F32 g_parted g_law_cart_is g_bridges_of g_joined g_fits z_enumerate z_all z_len z_max,b32,k32,W.mg_of X G a32⟩⟩
 have b33:=F33.binds (ps:=["_law_road","_law_cart","_law_way","_law_wheels_here"]) fun _ _ _ _ _ _ us hl=>by obtain⟨_,_,_,_,rfl⟩:=us4 hl;rfl
 have g_law_changed:Got l.prog w K mg base 16 "_law_changed" ["_law_road","_law_cart","_law_way","_law_wheels_here"] (iG K):=⟨⟨_,_,nH F33 g_parted g_law_same g_law_cart_is,b33,k33,W.mg_of X G a33⟩⟩
 have b34:=F34.binds (ps:=["self","pieces","rounds","shuts"]) fun _ _ _ _ _ _ us hl=>by obtain⟨_,_,_,_,rfl⟩:=us4 hl;rfl
 have m_Road:GotP l.prog w K mg base 1 "Road" ["self","pieces","rounds","shuts"] (js K):=⟨⟨_,_,sB x3 xm3 xi3 xn3 xp3,qk F34 z_list,b34,n_Road⟩⟩
 exact zN (P:=l.prog) (w:=w) (base:=base) F35 g_law_mix g_law_wheels g_ways_of g_joined g_law_cell g_law_pieces g_law_drawn g_law_cart_is g_law_same g_law_narrow g_law_asked g_law_changed m_Road d_Road m_Cart d_Cart z_range z_len
theorem walk{l:W.OpenLaw}{q:Program}{loose:List Str}{XP:(Str→Option Value)→Heap→Prop}{YP:World→Heap→Prop}{d:DefRec}{K:Params→W.Frag}(hn:l.most=some 63)(hdf:d.params.defaults=[])
 (hY:∀(w:World) (h:Heap),YP w h→(K w.params).In h)
 (F:∀(w:World) (mg:Str→Option Value) (fa:Addr) (h:Heap),(K w.params).In h→h.Ns mainGlobals mg→mg d.name=some (.ref fa)→
  ∃fd:FuncData,(∀(s:Shared) (u:Value),BindsTo s fd ⟨[u],[]⟩ [("_law_script",u)])∧∀base:Heap,(K w.params).In base→base.Ns mainGlobals mg→FnOk l.prog w (K w.params) mg base CX0 17 fa fd ["_law_script"] (qc (K w.params))):
 W.WalkO q loose XP YP l.row.toRowW d [] (fun f vs=>PySem.call f vs):=
 L2.walk_of (n:=63) (k:=17) (x:="_law_script") (CX:=fun _=>CX0) (sp:=fun w=>qc (K w.params)) hn (by decide) hdf ⟨rfl,by decide,by decide⟩ hY F (fun _ _ a ns hl _ hS=>⟨a,ns,rfl,hS,hl,fun _=>rfl⟩) fun _ _ _ _ _ z=>z
end Kl
namespace PySem.W.Fast
theorem tw17300062889418149422:True:=⟨⟩
theorem tw14306808149193690561:True:=⟨⟩
theorem tw12975179713709992116:True:=⟨⟩
theorem tw3502905500509624866:True:=⟨⟩
theorem tw3642342263066383571:True:=⟨⟩
theorem tw10158262362880748919:True:=⟨⟩
theorem tw7540789046705576679:True:=⟨⟩
theorem tw12622032762737769729:True:=⟨⟩
theorem tw9166365251941365289:True:=⟨⟩
theorem tw9279151086057519179:True:=⟨⟩
theorem tw852398777331221567:True:=⟨⟩
theorem tw14432425114662421223:True:=⟨⟩
theorem tw13438205402526458583:True:=⟨⟩
theorem tw15945314498856161862:True:=⟨⟩
theorem tw15156256194637473016:True:=⟨⟩
theorem tw8512554437157453928:True:=⟨⟩
theorem tw18229490609365463202:True:=⟨⟩
theorem tw4827663623847684875:True:=⟨⟩
theorem tw6860937441322687882:True:=⟨⟩
theorem tw8407418876195053317:True:=⟨⟩
theorem tw2264664074206827432:True:=⟨⟩
theorem tw4517679794053473029:True:=⟨⟩
theorem tw11981547289245118655:True:=⟨⟩
theorem tw15672169339406325643:True:=⟨⟩
end PySem.W.Fast
open PySem PySem.W PyProof.Rows
set_option maxRecDepth 100000 in
set_option maxHeartbeats 0 in
theorem PySem.Challenge.cw_ballastway_k20_joined_again_holds : PySem.Challenge.rw_ballastway_k20_joined_again.Holds := by
 w_on; o_law; k_head; (case hw => w_witness2)
 k_fill
 refine Kl.walk (l := PySem.Challenge.rw_ballastway_k20_joined_again) rfl rfl (fun w h Y => PySem.W.kIn_of Y) ?F
 case F =>
  intro w mg fa h KX G hmg
  refine' Kl.all_mk KX G hmg ?x0 ?xl0 ?xi0 ?x1 ?xl1 ?xi1 ?x2 ?xl2 ?xi2 ?x3 ?xl3 ?xi3 ?xo0 ?xk0 ?xa0 ?xb0 ?xg0 ?xe0 ?xf0 ?xm0 ?xn0 ?xp0 ?xna0_0 ?xna0_1 ?xna0_2 ?xo1 ?xk1 ?xa1 ?xb1 ?xg1 ?xe1 ?xf1 ?xm1 ?xn1 ?xp1 ?xna1_0 ?xo2 ?xk2 ?xa2 ?xb2 ?xg2 ?xe2 ?xf2 ?xm2 ?xn2 ?xp2 ?xna2_0 ?xna2_1 ?xna2_2 ?xna2_3 ?xna2_4 ?xo3 ?xk3 ?xa3 ?xb3 ?xg3 ?xe3 ?xf3 ?xm3 ?xn3 ?xp3 ?xna3_0 ?xna3_1 ?xna3_2 ?xcg ?xct ?a0 ?l0 ?c0 ?k0 ?a1 ?l1 ?c1 ?k1 ?a2 ?l2 ?c2 ?k2 ?a3 ?l3 ?c3 ?k3 ?a4 ?l4 ?c4 ?k4 ?a5 ?l5 ?c5 ?k5 ?a6 ?l6 ?c6 ?k6 ?l7 ?c7 ?k7 ?a8 ?l8 ?c8 ?k8 ?a9 ?l9 ?c9 ?k9 ?l10 ?c10 ?k10 ?l11 ?c11 ?k11 ?a12 ?l12 ?c12 ?k12 ?a13 ?l13 ?c13 ?k13 ?a14 ?l14 ?c14 ?k14 ?a15 ?l15 ?c15 ?k15 ?a16 ?l16 ?c16 ?k16 ?a17 ?l17 ?c17 ?k17 ?a18 ?l18 ?c18 ?k18 ?a19 ?l19 ?c19 ?k19 ?a20 ?l20 ?c20 ?k20 ?a21 ?l21 ?c21 ?k21 ?a22 ?l22 ?c22 ?k22 ?a23 ?l23 ?c23 ?k23 ?a24 ?l24 ?c24 ?k24 ?a25 ?l25 ?c25 ?k25 ?a26 ?l26 ?c26 ?k26 ?a27 ?l27 ?c27 ?k27 ?a28 ?l28 ?c28 ?k28 ?a29 ?l29 ?c29 ?k29 ?a30 ?l30 ?c30 ?k30 ?a31 ?l31 ?c31 ?k31 ?a32 ?l32 ?c32 ?k32 ?a33 ?l33 ?c33 ?k33 ?l34 ?c34 ?k34 ?a35 ?l35 ?c35 ?k35 ?zz0 ?zz1 ?zz2 ?zz3 ?zz4 ?zz5 ?zz6 ?zz7 ?zz8 ?zz9 ?zz10 ?zz11 ?zz12 ?zz13 ?zz14
  (case x0|xl0|xi0|x1|xl1|xi1|x2|xl2|xi2|x3|xl3|xi3=>k_is)
  (case xo0 => rfl)
  (case xk0 => decide +kernel)
  (case xa0|xb0|xg0|xe0|xf0|xm0|xn0|xp0|xna0_0|xna0_1|xna0_2=>k_is)
  (case xo1 => rfl)
  (case xk1 => decide +kernel)
  (case xa1|xb1|xg1|xe1|xf1|xm1|xn1|xp1|xna1_0=>k_is)
  (case xo2 => rfl)
  (case xk2 => decide +kernel)
  (case xa2|xb2|xg2|xe2|xf2|xm2|xn2|xp2|xna2_0|xna2_1|xna2_2|xna2_3|xna2_4=>k_is)
  (case xo3 => rfl)
  (case xk3 => decide +kernel)
  (case xa3|xb3|xg3|xe3|xf3|xm3|xn3|xp3|xna3_0|xna3_1|xna3_2|xcg|xct|a0|l0|c0|k0|a1|l1|c1|k1|a2|l2|c2|k2|a3|l3|c3|k3|a4|l4|c4|k4|a5|l5|c5|k5|a6|l6|c6|k6|l7|c7|k7|a8|l8|c8|k8|a9|l9|c9|k9|l10|c10|k10|l11|c11|k11|a12|l12|c12|k12|a13|l13|c13|k13|a14|l14|c14|k14|a15|l15|c15|k15|a16|l16|c16|k16|a17|l17|c17|k17|a18|l18|c18|k18|a19|l19|c19|k19|a20|l20|c20|k20|a21|l21|c21|k21|a22|l22|c22|k22|a23|l23|c23|k23|a24|l24|c24|k24|a25|l25|c25|k25|a26|l26|c26|k26|a27|l27|c27|k27|a28|l28|c28|k28|a29|l29|c29|k29|a30|l30|c30|k30|a31|l31|c31|k31|a32|l32|c32|k32|a33|l33|c33|k33|l34|c34|k34|a35|l35|c35|k35|zz0|zz1|zz2|zz3|zz4|zz5|zz6|zz7|zz8|zz9|zz10|zz11|zz12|zz13|zz14=>k_is)
