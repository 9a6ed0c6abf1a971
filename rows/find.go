package rows

import (
	"iter"
	"strings"

	"chandler/api"
	"chandler/tree"
)

// portion is how many pairs are asked of the tree at once, so that it doesn't hand out all that stands behind a table's.
const portion = 32

// All answers the rows of the table, in the order of their keys.
func All(x *tree.Tree, t Table) ([]Row, api.Errno) {
	if !isFit(t) {
		return nil, api.ErrRow
	}
	var found []Row
	for p := range pairsFrom(x, begin(t, rowMark)) {
		r, e := Decode(t, p)
		if e != api.OK {
			return nil, e
		}
		found = append(found, r)
	}
	return found, api.OK
}

// Find answers the rows with this value in the index's column, in the order of their keys.
func Find(x *tree.Tree, t Table, v Value) ([]Row, api.Errno) {
	if !isFit(t) || t.Index == noIndex || !isOf(t, t.Index, v) {
		return nil, api.ErrRow
	}
	ahead := indexBegin(t, v)
	var found []Row
	for p := range pairsFrom(x, ahead) {
		r, e := named(x, t, p, ahead)
		if e != api.OK {
			return nil, e
		}
		found = append(found, r)
	}
	return found, api.OK
}

// named answers the row that a pair of the index names, whose key has its row's keys behind those bytes.
func named(x *tree.Tree, t Table, p api.Pair, ahead string) (Row, api.Errno) {
	key := begin(t, rowMark) + p.Key[len(ahead):]
	value, there := x.Get(key)
	if !there {
		return nil, api.ErrRow
	}
	r, e := Decode(t, api.Pair{Key: key, Value: value})
	if e != api.OK {
		return nil, e
	}
	// The row there may have another value than the index says; then it isn't the one that is named.
	if own, ok := pairsOf(t, r); !ok || own.index != p {
		return nil, api.ErrRow
	}
	return r, api.OK
}

// pairsFrom hands out the pairs of the tree whose keys begin so, in their order.
func pairsFrom(x *tree.Tree, ahead string) iter.Seq[api.Pair] {
	return func(yield func(api.Pair) bool) {
		from := ahead
		for {
			some := x.Scan(from, portion)
			for _, p := range some {
				if !strings.HasPrefix(p.Key, ahead) || !yield(p) {
					return
				}
			}
			if len(some) < portion {
				return
			}
			// No text stands between a key and the same key with a zero byte behind it.
			from = some[portion-1].Key + "\x00"
		}
	}
}
