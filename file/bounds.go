package file

import "press/api"

// IsSide tells whether a page may be so wide or high.
func IsSide(n int) bool { return n >= 1 && n <= api.MaxPoint }

// IsTitle tells whether a file may be called so; the empty title is none.
func IsTitle(s string) bool { return len(s) <= api.MaxText }

// IsMark tells whether a mark may be called so.
func IsMark(title string) bool { return title != "" && IsTitle(title) }
