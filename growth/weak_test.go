package growth

import (
	"testing"

	"bailee/sha"
	"bailee/tree"
)

// weak is a digest of which there are 16 alone.
func weak(b []byte) sha.Digest { return sha.Digest{0: sha.Of(b)[0] & 15} }

// weakMade are both roots that a proof makes, and the byte strings that those of all leaves are made of, the root's last, if digests are weak.
func weakMade(m, n int, old sha.Digest, proof []sha.Digest) (first, all sha.Digest, strings []string) {
	first, all = old, old
	at := 0
	for p := range parts(m, n) {
		d := proof[at]
		at++
		switch p.side {
		case own:
			first, all = d, d
			continue
		case left:
			first = weak(tree.Inner(d, first))
			strings = append(strings, string(tree.Inner(d, all)))
		case right:
			strings = append(strings, string(tree.Inner(all, d)))
		}
		all = weak([]byte(strings[len(strings)-1]))
	}
	return first, all, strings
}

// clash tells whether two byte strings aren't the same, and have one weak digest.
func clash(list []string) bool {
	by := map[sha.Digest]string{}
	for _, s := range list {
		d := weak([]byte(s))
		if have, ok := by[d]; ok && have != s {
			return true
		}
		by[d] = s
	}
	return false
}

// weakProof is a first root, and a proof, of weak digests.
func weakProof(count, seed int) (sha.Digest, []sha.Digest) {
	proof := make([]sha.Digest, count)
	for j := range proof {
		proof[j] = weak(message(5, 20*seed+j))
	}
	return weak(message(6, seed)), proof
}

// told is what one proof makes.
type told struct {
	first   sha.Digest
	strings []string
}

func TestTwoFirstRootsHaveAClash(t *testing.T) {
	// With digests that clash easily, many first roots are proved by one root of all leaves: each two of them have a clash.
	for n := 1; n <= 17; n++ {
		for m := 1; m <= n; m++ {
			found, by := 0, map[sha.Digest][]told{}
			for seed := range 60 {
				old, proof := weakProof(Count(m, n), seed)
				first, all, strings := weakMade(m, n, old, proof)
				for _, have := range by[all] {
					if have.first == first {
						continue
					}
					found++
					if !clash(append(append([]string(nil), have.strings...), strings...)) {
						t.Fatalf("%d among %d: %s and %s are first roots, and there is no clash", m, n, sha.Hex(have.first), sha.Hex(first))
					}
				}
				by[all] = append(by[all], told{first, strings})
			}
			if m < n && found == 0 || m == n && found > 0 {
				t.Fatalf("%d among %d: %d pairs of first roots", m, n, found)
			}
		}
	}
}
