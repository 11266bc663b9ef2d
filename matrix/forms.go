package matrix

import (
	"slices"

	"schisma/api"
)

// hermite returns the Hermite form of a valid matrix: that of the leading columns alone, with the elements of the other columns, which follow from theirs.
func hermite(rows []api.Vec) []api.Vec {
	f := first(rows)
	short := make([]api.Vec, len(rows))
	for i, row := range rows {
		for j, c := range f.columns {
			short[i][j] = row[c]
		}
	}
	form := triangle(short, len(f.columns), f.minor)
	for i := range form {
		form[i] = combined(form[i][:], f.rows, f.minor)
	}
	return form
}

// kernel returns the Hermite form of the kernel of a valid matrix. The elements of a row of the kernel in the frame's columns follow from those in the other ones, the free ones, and are integers exactly if the frame's rows lead the free elements to multiples of the minor. So the free elements form a lattice, and behind what they lead to, they are what is left of the Hermite form where that is 0.
func kernel(rows []api.Vec) []api.Vec {
	f := last(rows)
	rank := len(f.columns)
	var leads, solutions []api.Vec
	for c := range width {
		if slices.Contains(f.columns, c) {
			continue
		}
		var lead, solution api.Vec
		for i, row := range f.rows {
			lead[i] = row[c]
			solution[f.columns[i]] = -row[c]
		}
		lead[rank+len(leads)] = 1
		solution[c] = f.minor
		leads, solutions = append(leads, lead), append(solutions, solution)
	}
	form := triangle(leads, width, f.minor)[rank:]
	for i := range form {
		form[i] = combined(form[i][rank:], solutions, f.minor)
	}
	return form
}

// triangle returns the Hermite form, in the first columns, of the lattice of rows and of d, a minor, times each unit row. As these are in the lattice, no element need be greater than the minor, and no product leaves an int.
func triangle(rows []api.Vec, columns, d int) []api.Vec {
	modulus := max(d, -d)
	rest := make([]api.Vec, len(rows))
	for i, row := range rows {
		for c, e := range row {
			rest[i][c] = remainder(e, modulus)
		}
	}
	var form []api.Vec
	for c := range columns {
		var unit api.Vec
		unit[c] = modulus
		rest = append(rest, unit)
		i := eliminate(rest, c, modulus)
		form = append(form, rest[i])
		rest = slices.Delete(rest, i, i+1)
		for above := range c {
			form[above] = lowered(form[above], form[c], c, modulus)
		}
	}
	return form
}

// eliminate makes the elements of a column 0, but for that of the row whose index it returns.
func eliminate(rows []api.Vec, column, modulus int) int {
	for {
		lead := least(rows, func(row api.Vec) int { return row[column] })
		alone := true
		for i, row := range rows {
			if i != lead && row[column] > 0 {
				rows[i] = lowered(row, rows[lead], column, modulus)
				alone = false
			}
		}
		if alone {
			return lead
		}
	}
}

// least returns the index of the first item with the least key above 0, or -1 if there is none.
func least[T any](list []T, key func(T) int) int {
	found := -1
	for i, item := range list {
		if n := key(item); n > 0 && (found < 0 || n < key(list[found])) {
			found = i
		}
	}
	return found
}

// lowered returns row less that multiple of lead, modulo the modulus, with which its element in a column is from 0 to less than that of lead. The columns before it stay as they are: a pivot there may be the modulus itself.
func lowered(row, lead api.Vec, column, modulus int) api.Vec {
	times := row[column] / lead[column]
	for c := column; c < len(row); c++ {
		row[c] = remainder(row[c]-times*lead[c], modulus)
	}
	return row
}

// remainder returns n modulo a modulus, from 0 on.
func remainder(n, modulus int) int {
	n %= modulus
	if n < 0 {
		n += modulus
	}
	return n
}
