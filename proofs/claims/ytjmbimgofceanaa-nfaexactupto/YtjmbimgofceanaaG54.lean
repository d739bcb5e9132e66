/- NfaExact answers true for every node, number and list of machines of together at most 1048576 values (P7.1 to P7.3, P7.5: of every node of at most three thousand nodes and every number nfa.Build answers the document's machine or error; of any machines nfa.Union answers the document's union or error, and nfa.Right whether each fits; what is handed in stays, the room behind it too), and leaves its arguments as they were. Condition: the second form's bound. -/
import Derived.Test.YtjmbimgofceanaaG40
import Derived.Test.YtjmbimgofceanaaG51
import Derived.Test.YtjmbimgofceanaaG53
namespace Go.Proofs.Ytjmbimgofceanaa

theorem nfaExactUpto_said : Rows.NfaExactUptoSaid := nfaExact.said build_ok union_ok right_ok
end Go.Proofs.Ytjmbimgofceanaa
