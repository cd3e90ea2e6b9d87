"""Stepwhere: generators over context variables, alike for every program that steps them."""
