package sensor_test

import (
	"math/big"
	"math/rand/v2"
	"slices"
	"testing"

	"ductility/api"
	"ductility/sensor"
)

// center returns a center.
func center(xNum, xDen, yNum, yDen int) api.SensorCenter {
	return api.SensorCenter{X: frac(xNum, xDen), Y: frac(yNum, yDen)}
}

// onePixel returns an image of so many rows and columns, with one pixel that is not 0.
func onePixel(height, width, x, y, pixel int) [][]int {
	image := zeros(height, width)
	image[y][x] = pixel
	return image
}

// P7.5, example 9 and edge cases
func TestCenters(t *testing.T) {
	for _, x := range []struct {
		name  string
		image [][]int
		want  api.SensorCenter
	}{
		{"example", exampleImage(), center(1, 2, 3, 4)},
		{"one pixel", rows([]int{7}), center(0, 1, 0, 1)},
		{"one pixel of many", onePixel(4, 6, 5, 2, 1), center(5, 1, 2, 1)},
		{"the last pixel", onePixel(10, 10, 9, 9, 255), center(9, 1, 9, 1)},
		{"one row", rows([]int{1, 0, 2}), center(4, 3, 0, 1)},
		{"one column", rows([]int{1}, []int{0}, []int{2}), center(0, 1, 4, 3)},
		{"bright", full(10, 10, 255), center(9, 2, 9, 2)},
		{"in lowest terms", rows([]int{3, 3}, []int{3, 9}), center(2, 3, 2, 3)},
		{"coordinates with other denominators", rows([]int{1, 2}, []int{3, 0}), center(1, 3, 1, 2)},
	} {
		is, e := sensor.CenterOf(x.image)
		mustBe(t, x.name, is, e, x.want, api.OK)
	}
	for _, x := range badImages() {
		is, e := sensor.CenterOf(x.image)
		mustFail(t, x.name, is, e, x.want)
	}
}

// P7.5
func TestMoved(t *testing.T) {
	for _, x := range []struct {
		name          string
		first, second [][]int
		want          api.SensorCenter
	}{
		{"not at all", exampleImage(), exampleImage(), center(0, 1, 0, 1)},
		{"brighter", exampleImage(), rows([]int{0, 10}, []int{20, 10}), center(0, 1, 0, 1)},
		{"to the right", onePixel(3, 4, 0, 1, 9), onePixel(3, 4, 3, 1, 200), center(3, 1, 0, 1)},
		{"upwards", onePixel(3, 4, 2, 2, 9), onePixel(3, 4, 2, 0, 9), center(0, 1, -2, 1)},
		{"to the left and downwards", onePixel(3, 4, 3, 0, 1), onePixel(3, 4, 1, 1, 1), center(-2, 1, 1, 1)},
		{"by fractions", exampleImage(), rows([]int{1, 1}, []int{1, 0}), center(-1, 6, -5, 12)},
		{"in lowest terms", rows([]int{1, 3}), rows([]int{3, 1}), center(-1, 2, 0, 1)},
		{"by a whole number", rows([]int{1, 1, 0}), rows([]int{0, 1, 1}), center(1, 1, 0, 1)},
	} {
		is, e := sensor.MovedBy(x.first, x.second)
		mustBe(t, x.name, is, e, x.want, api.OK)
	}
}

// P7.5: errors of the first image come before those of the second one, and ErrClash last.
func TestMovedErrors(t *testing.T) {
	good := exampleImage()
	for _, x := range badImages() {
		is, e := sensor.MovedBy(x.image, good)
		mustFail(t, x.name, is, e, x.want)
		is, e = sensor.MovedBy(good, x.image)
		mustFail(t, x.name, is, e, x.want)
		for _, y := range badImages() {
			is, e := sensor.MovedBy(x.image, y.image)
			mustFail(t, x.name, is, e, x.want)
		}
	}
	for _, other := range [][][]int{full(1, 2, 1), full(3, 2, 1), full(2, 1, 1), full(2, 3, 1), full(10, 10, 1), full(1, 4, 1), full(4, 1, 1)} {
		is, e := sensor.MovedBy(good, other)
		mustFail(t, other, is, e, api.ErrClash)
		is, e = sensor.MovedBy(other, good)
		mustFail(t, other, is, e, api.ErrClash)
	}
}

// centerByHand returns both coordinates of the center of an image.
func centerByHand(image [][]int) (x, y *big.Rat) {
	x, y = new(big.Rat), new(big.Rat)
	sum := new(big.Rat)
	for row, pixels := range image {
		for column, pixel := range pixels {
			x.Add(x, big.NewRat(int64(column*pixel), 1))
			y.Add(y, big.NewRat(int64(row*pixel), 1))
			sum.Add(sum, big.NewRat(int64(pixel), 1))
		}
	}
	return x.Quo(x, sum), y.Quo(y, sum)
}

// movedByHand returns by what the center moved.
func movedByHand(first, second [][]int) api.SensorCenter {
	fromX, fromY := centerByHand(first)
	toX, toY := centerByHand(second)
	return api.SensorCenter{X: fracOf(toX.Sub(toX, fromX)), Y: fracOf(toY.Sub(toY, fromY))}
}

// someImage returns an image of so many rows and columns.
func someImage(random *rand.Rand, height, width int) [][]int {
	image := zeros(height, width)
	image[random.IntN(height)][random.IntN(width)] = 1 + random.IntN(255)
	size := []int{1, 2, 256}[random.IntN(3)]
	for _, row := range image {
		for i := range row {
			row[i] = max(row[i], random.IntN(size))
		}
	}
	return image
}

// P7.5, P7.14: centers by hand lie within the image.
func TestCentersByHand(t *testing.T) {
	random := fixedRandom()
	for range 2000 {
		height, width := 1+random.IntN(10), 1+random.IntN(10)
		image, other := someImage(random, height, width), someImage(random, height, width)
		x, y := centerByHand(image)
		is, e := sensor.CenterOf(image)
		mustBe(t, image, is, e, api.SensorCenter{X: fracOf(x), Y: fracOf(y)}, api.OK)
		if is.X.Num < 0 || is.X.Num > (width-1)*is.X.Den || is.Y.Num < 0 || is.Y.Num > (height-1)*is.Y.Den {
			t.Error(image, is)
		}
		moved, e := sensor.MovedBy(image, other)
		mustBe(t, image, moved, e, movedByHand(image, other), api.OK)
		back, e := sensor.MovedBy(other, image)
		mustBe(t, image, back, e, center(-moved.X.Num, moved.X.Den, -moved.Y.Num, moved.Y.Den), api.OK)
	}
}

// P7.5: images that are bright on one side have the greatest parts, and none of them is greater than MaxPart.
func TestGreatestMoves(t *testing.T) {
	side := func(columns int, isLeft bool) [][]int {
		image := full(10, 10, 255)
		for _, row := range image {
			if isLeft {
				clear(row[columns:])
			} else {
				clear(row[:10-columns])
			}
		}
		return image
	}
	for a := 1; a <= 10; a++ {
		for b := 1; b <= 10; b++ {
			left, right := side(a, true), side(b, false)
			// With one pixel less the sums have no common divisor that helps.
			left[0][0], right[9][9] = 254, 254
			want := movedByHand(left, right)
			if want.X.Num > api.MaxPart || want.X.Den > api.MaxPart {
				t.Error(a, b, want)
			}
			is, e := sensor.MovedBy(left, right)
			mustBe(t, a, is, e, want, api.OK)
		}
	}
}

// P7.14: an image whose pixels are all moved by one pixel has its center moved by 1.
func TestMovedByOne(t *testing.T) {
	random := fixedRandom()
	for range 300 {
		height, width := 2+random.IntN(9), 2+random.IntN(9)
		image := someImage(random, height-1, width-1)
		for i, row := range image {
			image[i] = append(row, 0)
		}
		image = append(image, make([]int, width))
		down := slices.Concat(zeros(1, width), image[:height-1])
		var right [][]int
		for _, row := range image {
			right = append(right, slices.Concat([]int{0}, row[:width-1]))
		}
		is, e := sensor.MovedBy(image, down)
		mustBe(t, image, is, e, center(0, 1, 1, 1), api.OK)
		is, e = sensor.MovedBy(image, right)
		mustBe(t, image, is, e, center(1, 1, 0, 1), api.OK)
		is, e = sensor.MovedBy(right, down)
		mustBe(t, image, is, e, center(-1, 1, 1, 1), api.OK)
	}
}
