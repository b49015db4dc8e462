package file

import (
	"strings"

	"press/written"
)

// As many members a node has, but for the last of a row.
const groupSize = 8

// tree is the pages, a row of nodes above them, and so on up to the root.
type tree []row

// row is objects of one height.
type row struct {
	// The number of its first one.
	first int
	count int
	// How many pages are below each of them, or fewer below the last.
	span int
}

// rowsOf lays out the tree: its first object's number is first.
func rowsOf(first int, pages int) tree {
	below := row{first: first, count: pages, span: 1}
	rows := tree{below}
	for {
		// Without pages there is a root too.
		count := max(1, (below.count+groupSize-1)/groupSize)
		below = row{first: below.first + below.count, count: count, span: below.span * groupSize}
		rows = append(rows, below)
		if count == 1 {
			return rows
		}
	}
}

// parent is the number of the node above member i of row r; 0, if that is the
// root.
func (t tree) parent(r int, i int) int {
	if r == len(t)-1 {
		return 0
	}
	return t[r+1].first + i/groupSize
}

// kids names the members of node i of row r.
func (t tree) kids(r int, i int) string {
	below := t[r-1]
	var names []string
	for k := i * groupSize; k < min((i+1)*groupSize, below.count); k++ {
		names = append(names, written.Name(below.first+k))
	}
	return strings.Join(names, " ")
}

// pagesBelow tells how many pages are below node i of row r.
func (t tree) pagesBelow(r int, i int) int {
	return min(t[r].span, t[0].count-i*t[r].span)
}
