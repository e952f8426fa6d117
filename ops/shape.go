package ops

import "thrift/api"

func isSide(n int) bool {
	return 1 <= n && n <= api.MaxSide
}

func (u Use) saidShape() (Shape, bool) {
	if !isSide(u.Node.Rows) || !isSide(u.Node.Cols) {
		return Shape{}, false
	}
	return ShapeOf(u.Node), true
}

func (u Use) inputShape() (Shape, bool) {
	if u.Node.K < 0 || u.Node.K >= api.MaxInputs {
		return Shape{}, false
	}
	return u.saidShape()
}

func (u Use) commonShape() (Shape, bool) {
	if u.A != u.B {
		return Shape{}, false
	}
	return u.A, true
}

func (u Use) partShape() (Shape, bool) {
	return u.A, true
}

func (u Use) timesShape() (Shape, bool) {
	if u.A.Cols != u.B.Rows {
		return Shape{}, false
	}
	return Shape{u.A.Rows, u.B.Cols}, true
}

func (u Use) turnedShape() (Shape, bool) {
	return Shape{u.A.Cols, u.A.Rows}, true
}
