package rows

import "slices"

// Count tells at how many places of the text p stands.
func (x *Rows) Count(p string) int {
	from, to := x.beginningWith(p)
	return to - from
}

// Locate tells the first of the places of the text where p stands, rising: so many of them at most, which is not below 0.
func (x *Rows) Locate(p string, most int) []int {
	from, to := x.beginningWith(p)
	places := make([]int, 0, to-from)
	for row := from; row < to; row++ {
		places = append(places, x.at(row))
	}
	// The rows stand in the order of their ends, so the first places may be at any of them.
	slices.Sort(places)
	n := min(most, len(places))
	return places[:n:n]
}

// beginningWith tells the rows whose ends begin with p: from a row on, up to another one, without it.
func (x *Rows) beginningWith(p string) (from int, to int) {
	from, to = 0, x.Length+1
	// Backwards, as a row knows the byte ahead of it alone; and no longer than there are rows, however long p is.
	for k := len(p) - 1; k >= 0 && from < to; k-- {
		from, to = x.wouldStand(p[k], from), x.wouldStand(p[k], to)
	}
	return from, to
}

// wouldStand tells at which row an end would stand that is c with the end of a row behind it.
func (x *Rows) wouldStand(c byte, row int) int {
	return int(x.First[c]) + x.Tree.Ahead(c, x.inColumn(row))
}

// at tells where a row is at.
func (x *Rows) at(row int) int {
	steps := 0
	// The last row is marked by every rate, so the way back ends there at the latest.
	for !x.Marks.Bit(row) {
		_, row = x.Back(row)
		steps++
	}
	return int(x.Places[x.Marks.Ones(row)]) + steps
}
