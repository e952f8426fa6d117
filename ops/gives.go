package ops

import "thrift/api"

// Work is a node with the matrices that it works on.
type Work struct {
	Node  api.Node
	Input api.Matrix // the one that an In names
	A, B  api.Matrix // what its parts give
}

// Gives is the matrix that a node of this Op makes of them.
func (k Kind) Gives(w Work) api.Matrix {
	made := api.Matrix{Rows: w.Node.Rows, Cols: w.Node.Cols}
	for row := range made.Rows {
		for col := range made.Cols {
			made.Numbers = append(made.Numbers, k.At(w, row, col))
		}
	}
	return made
}

func at(m api.Matrix, row, col int) int {
	return m.Numbers[row*m.Cols+col]
}

func (w Work) inputAt(row, col int) int {
	return at(w.Input, row, col)
}

func (w Work) fillAt(row, col int) int {
	return w.Node.K
}

func (w Work) sumAt(row, col int) int {
	return at(w.A, row, col) + at(w.B, row, col)
}

func (w Work) lessAt(row, col int) int {
	return at(w.A, row, col) - at(w.B, row, col)
}

func (w Work) productAt(row, col int) int {
	return at(w.A, row, col) * at(w.B, row, col)
}

func (w Work) scaledAt(row, col int) int {
	return w.Node.K * at(w.A, row, col)
}

func (w Work) timesAt(row, col int) int {
	sum := 0
	for i := range w.A.Cols {
		sum += at(w.A, row, i) * at(w.B, i, col)
	}
	return sum
}

func (w Work) turnedAt(row, col int) int {
	return at(w.A, col, row)
}
